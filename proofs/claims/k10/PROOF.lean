import PyProof.Rows.All
import Wide.All
import OpenK.AllK
import Wide.FinOn
import Lean
import PyProof.EqAt
import PyProof.EqKinds
import PyProof.TupleCall
import KE.KRevIter
import PyProof.ZipIter
import KE.KSortKey
import PyProof.MinMaxWalk
import PySem.Challenge.RW_ringfell_k10_peeled
open List renaming length_map → AM,getElem?_eq_getElem → AO,length_append → AQ,size_toArray → AR,getElem?_eq_some_iff → AU,mem_singleton → AV,getElem?_map → AX,mem_of_getElem? → AY,getD_eq_getElem?_getD → AZ,mem_append → A2,map_append → A4,mem_cons → A6,take_of_length_le → A7,mem_map → Bc,getElem?_append_left → Bf,mem_cons_self → Bg,mem_cons_of_mem → Bh,mem_append_right → Bi,map_cons → Bj,getElem?_append_right → Bk,getElem?_eq_none → Bl,length_cons → Bn,append_assoc → Bo,mem_append_left → Bp,getElem?_toArray → Bs,mem_iff_getElem? → Bt,mem_map_of_mem → BK,length_take → BL,append_nil → BM,mem_range → BP,pairwise_map → BQ,length_drop → BS,take_add_one → BU,length_singleton → BV,count_pos_iff → BW,getElem?_set_self → BX,drop_sublist → BZ,take_append_drop → B0,take_sublist → B3,pairwise_append → B6,getElem?_take → B7,nodup_cons → B8,getElem?_set_ne → Cc,extract_eq_take_drop → Ce,length_reverse → Cf,length_range → Ci,mem_filter → Cj,getElem?_cons_succ → Cm,replicate_succ → Ct,flatten_cons → Cu,ext_getElem? → Cy,length_pos_iff → Cz,getElem?_eq_none_iff → CA,length_nil → CB,perm_append_comm → CC,pairwise_singleton → CK,filter_cons_of_pos → CL,all_eq_true → CT,length_replicate → CU,map_map → CZ,drop_eq_getElem_cons → C1,pairwise_iff_getElem → C2,mem_of_mem_take → C6,length_set → C7,length_eq_zero_iff → Dh,getElem?_range → Di,getElem_mem → Dl,take_append_of_le_length → Dm,getElem?_drop → Dr,count_cons → Dw,find?_cons → Dx,map_drop → DC,reverse_cons → DD,mem_of_mem_drop → DE,reverse_reverse → DF,length_eraseIdx → DG,lookup_cons → DJ,reverse_append → DL,getElem_of_mem → DM,map_nil → DS,idxOf_lt_length_iff → DV,mem_of_mem_eraseIdx → DY,mem_filterMap → D1,getElem?_replicate → D2,zip_cons_cons → D3,eraseIdx_cons_succ → D5,nil_append → D6,pairwise_cons → D7,filter_cons_of_neg → D8,eraseIdxIfInBounds_toArray → Ec,nodup_append → Ee,drop_zero → Eg,take_zero → Eh,nodup_nil → Ej,eq_nil_or_concat → Eo,concat_eq_append → Ep,drop_append_of_le_length → Et,not_mem_nil → Ew,map_take → EA,filterMap_cons → EB,perm_ext_iff_of_nodup → EJ,set_set → EN,filter_append → ES,getElem?_zip_eq_some → EW,drop_left → EX,find?_range_eq_none → E4,eq_of_mem_replicate → Fb,getElem?_inj → Fc,count_append → Fd,range'_succ → Fj,mem_flatMap → Fm,drop_eq_nil_of_le → Fp,pairwise_lt_range → Fq,filter_eq_nil_iff → Ft,of_mem_zip → Fu,foldl_cons → Fv,contains_iff_mem → Fz,getElem?_reverse → FA,filterMap_append → FE,nodup_iff_count → FJ,count_singleton → FK,filter_eq_self → FT,filterMap_map → FV,any_cons → Ga,getElem_idxOf → Gd,filter_filter → Ge,reverse_perm → Gr,getElem_inj → Gv,perm_middle → Gy,cons_append → Gz,nodup_range → GB,ext_getElem → GD,take_length → GH,map_reverse → GI,append_inj' → GJ,length_zip → GN,filter_nil → GW,drop_drop → G1,take_left → G2,take_succ → G3,count_nil → G4,map_set → Hd
open PySem.Heap renaming get?_push_of_some → AN,get?_push_size → A0,lt_size → A1,get?_update_other → Bd,get?_update_self → Bv,size_push → B4,get?_update_ne → FO
open Nat renaming le_refl → AS,ne_of_lt → A5,lt_of_lt_of_le → Ba,zero_le → Br,lt_irrefl → BB,le_trans → BF,lt_succ_of_lt → BJ,lt_succ_self → B2,lt_or_ge → Cp,lt_of_succ_lt → Cw,le_add_right → CH,le_sub_one_of_lt → CJ,lt_of_le_of_lt → CV,eq_zero_or_pos → C0,le_of_lt_succ → Dc,not_lt_zero → Dd,zero_add → De,add_le_add_left → Df,add_sub_cancel_left → Dg,lt_of_not_le → Dn,eq_zero_of_not_pos → Dp,ne_of_gt → Ds,le_antisymm → Dv,le_succ_of_le → Dz,le_of_lt → DP,succ_pos → DT,mod_lt → Ed,lt_trichotomy → Ef,le_of_not_lt → Es,sub_one_lt_of_lt → Ey,le_succ → EC,min_self → EO,succ_le_succ → Fi,sub_zero → Fw,le_of_sub_eq_zero → Fx,lt_of_le_of_ne → FW,sub_pos_of_lt → Gj,le_of_succ_le → Gk,add_zero → Gs,sub_self → Gu,le_zero → GU,add_assoc → Ha
open Array renaming length_toList → AW,getElem?_toList → A3,getElem?_eq_getElem → Be,mem_toList_iff → Bq,toList_append → Bz,size_map → BD,getElem?_eq_some_iff → Cb,getD_eq_getD_getElem? → Cn,getElem?_eq_none → Cq,toList_push → Cv,toList_extract → CI,toList_reverse → C3,size_push → C9,size_append → DA,toList_map → Eu,toList_setIfInBounds → EH,perm_iff_toList_perm → EI,size_setIfInBounds → E3,getElem?_replicate → E5,getElem?_map → FX,forIn_toList → FY,getElem_mem → Gm,toList_inj → GA
open Bool renaming false_eq_true → A8,false_ne_true → A9,not_true → Ca,and_eq_true → Co,eq_iff_iff → CM,eq_false_iff → DB,false_and → EU,and_false → EV,not_false → FL,or_false → F0
open Option.some renaming inj → Bb
open PySem.F renaming plainAttrs_list → Bm,plain_min_loop → Bu,slot_list_append → BG,type_list_append → BH,called_set → B9,entry_min_loop → Cs,slot_tuple_count → CG,slot_tuple_iterator_next → CQ,plain_extend_loop → Dk,slot_enumerate_iter → Dt,slot_enumerate_next → Du,args_tuple_add_2 → DR,slot_list_extend → DW,type_list_extend → DX,type_tuple_count → DZ,entry_tuple_add → D4,slot_tuple_add → D9,slot_list_pop → Em,type_list_pop → En,args_tuple_iterator_next_1 → Ez,entry_tuple_iterator_next → ED,args_tuple_count_2 → EK,args_object_init_2 → EL,entry_tuple_count → EZ,plain_extend_loop → E1,plain_min → E7,entry_min → E8,slot_tuple_index → E9,args_enumerate_iter_1 → Fe,plain_list_iadd → Fh,kind_min → Fl,entry_enumerate_iter → Fo,typeCall_set_1 → Fs,mro_reversed → FI,entry_extend_loop → FP,entry_type_call → Gn,plain_list_iadd → Gp,entry_list_pop → Gx,entry_set_init → GC,args_list_ne_2 → GF,slot_list_pop → GK,slot_int_rmul → GL,plain_set_new → GO,slot_set_iter → GP,entry_list_ne → GQ
open PySem.PassesOwn renaming never → Bw
open PyProof.Rows.KeyOrd renaming kle_trans → Bx,kle_of_klt → B5,kle_refl → Ck,kle_antisymm → FN
open PySem.Around renaming under_plainId → BA,under_plain → FZ
open PySem.W renaming mg_of → BC,mg_none_of → BE,kia_one → Cd,cellsFrom_some → Fn,kat_nil → Fy,kitx_list → Gf,kitx_dict → Gg
open PyProof.Rows renaming slot_tuple_getitem → BI,callWith_type1 → BR
open Ne renaming symm → BN
open Int renaming toNat_natCast → BO,emod_lt_of_pos → CD,emod_nonneg → CO,zero_add → Er,fdiv_eq_ediv_of_nonneg → EF,fmod_eq_emod_of_nonneg → EG,ediv_nonneg → FC,le_total → FD,sub_zero → FF,le_refl → GV
open List.Nodup renaming length_le_of_subset → B1
open List.Perm renaming append_left → Cg,append_right → CP,refl → DH
open Option renaming map_eq_some_iff → Cr,map_some → C8,isSome_iff_exists → DQ,isSome_map → E6,getD_none → Gw
open PySem renaming mem_of_lookup → CN,boot_len → Ei
open Iff renaming rfl → CS
open PySem.Obj renaming data_mapFields → CW,isFreed_of_fields → Ek,cls_mapFields → Gi
open PyProof.Rows.F renaming plain_set_update_loop → Dj,entry_set_update_loop → Ff
open PySem.SeqAt.EqAt renaming int_int → Dq,same → GS
open PySem.Paired renaming length → Dy,snoc → Hh
open Classical renaming byContradiction → DI
open PySem.Heap.SameBut renaming update → DK
open PySem.Pv renaming boot_tuple → DN,boot_list → ET
open List.Pairwise renaming imp_of_mem → DU,imp → Hj,and → Hk
open PySem.Calls renaming callWith_builtin → Ea,Name_function_global → EE,spliced_cons → EM,call_function_entry → EY,spliced_nil → E2,evalArgs_plain → FH
open PySem.Value renaming isInt_shape → Eb
open PySem.StrLaws renaming seqIndex_nonneg → Ex
open PySem.Code renaming quiet_builtin → ER
open PySem.Walks renaming tuple → Fg,list → Gh
open Std.Legacy.Range renaming forIn_eq_forIn_range' → FG
open PySem.SeqAt renaming tuple_countAt → FQ
open PySem.SeqAt.RcNeAt renaming tuples → FR
open Prod renaming ext → FU
open PySem.Moved renaming eq_with → Gb,trans → Hg
open PySem.SeqAt.RcAt renaming tuples → Gq
open PySem.Heap.ExtBut renaming push → GG
open PySem.ItemsOf renaming nil → GR
open PySem.EqMixed renaming eq_bool_str → GX,eq_str_bool → GY,ne_bool_str → GZ,ne_str_bool → G0,eq_int_str → G5,eq_str_int → G6,ne_int_str → G7,ne_str_int → G9
open PySem.CmpOf renaming ints_lt → Hb
open PySem.W.Looks renaming of_pure → Hc
open PySem.W.KatTups renaming cons → He
open Sum.inl renaming inj → Hf
open PySem.Heap.IsSliceOf renaming new → Hi
set_option Elab.async false
set_option linter.all false
set_option maxRecDepth 100000
namespace L2
open PySem PySem.Spec PyProof.Rows
abbrev Key:=Sum Int Str
def lN:Key->Value->Bool
 | .inl k,v=>Value.isInt k v
 | .inr x,v=>Value.isStrOf x v
def keyH (w:World):Key->Int
 | .inl k=>hashInt k
 | .inr x=>hashStr w x
theorem bM:∀ {k:Key} {v:Value},lN k v=true->(∃ i t,k=Sum.inl i/\v=Value.int i t)\/(∃ x t,k=Sum.inr x/\v=Value.str x t)
 | .inl i,v,h=>by
  obtain ⟨t,e⟩:=Eb (k:=i) (v:=v) h
  exact .inl ⟨i,t,rfl,e⟩
 | .inr x,v,h=>by
  obtain ⟨t,e⟩:=Value.isStrOf_shape (x:=x) (v:=v) h
  exact .inr ⟨x,t,rfl,e⟩
theorem sO (i:Int) (t:Tok):lN (.inl i) (.int i t)=true:=by simp [lN,Value.isInt]
theorem sP (x:Str) (t:Tok):lN (.inr x) (.str x t)=true:=by simp [lN,Value.isStrOf]
theorem yB (a b:Int):decide ((Sum.inl a:Key)=Sum.inl b)=(a == b):=by
 by_cases e:a=b
 ·subst e; simp
 ·have h:¬ (Sum.inl a:Key)=Sum.inl b:=fun q=>e (Hf q)
  rw [decide_eq_false h]
  exact (beq_eq_false_iff_ne.mpr e).symm
theorem yC (a b:Str):decide ((Sum.inr a:Key)=Sum.inr b)=decide (a=b):=by
 by_cases e:a=b
 ·subst e; simp
 ·have h:¬ (Sum.inr a:Key)=Sum.inr b:=fun q=>e (Sum.inr.inj q)
  rw [decide_eq_false h,decide_eq_false e]
theorem yD (a:Int) (b:Str):decide ((Sum.inl a:Key)=Sum.inr b)=false:=decide_eq_false (fun q=>nomatch q)
theorem yE (a:Str) (b:Int):decide ((Sum.inr a:Key)=Sum.inl b)=false:=decide_eq_false (fun q=>nomatch q)
def bN (prog:Program) (w:World):PySem.KeyKind prog w Key where
 is:=lN
 hash:=keyH w
 inj:=fun v a b ha hb=>by
  rcases bM ha with ⟨i,t,rfl,rfl⟩ | ⟨x,t,rfl,rfl⟩
  ·rcases bM hb with ⟨j,u,rfl,e⟩ | ⟨y,u,rfl,e⟩
   ·injection e with e1 _; rw [e1]
   ·exact nomatch e
  ·rcases bM hb with ⟨j,u,rfl,e⟩ | ⟨y,u,rfl,e⟩
   ·exact nomatch e
   ·injection e with e1 _; rw [e1]
 byValue:=fun k v h=>by
  rcases bM h with ⟨i,t,rfl,rfl⟩ | ⟨x,t,rfl,rfl⟩ <;> rfl
 pyHash:=fun hv h=>by
  rcases bM hv with ⟨i,t,rfl,rfl⟩ | ⟨x,t,rfl,rfl⟩
  ·exact wpAny_pyHash_int h
  ·exact wpAny_pyHash_str h
 eqBool:=fun hu hv h=>by
  rcases bM hu with ⟨i,t,rfl,rfl⟩ | ⟨x,t,rfl,rfl⟩
  ·rcases bM hv with ⟨j,u,rfl,rfl⟩ | ⟨y,u,rfl,rfl⟩
   ·rw [yB] at h; exact wpAny_eqBool_int h
   ·rw [yD] at h; exact SeqAt.EqAt.int_str i t y u _ _ _ _ h
  ·rcases bM hv with ⟨j,u,rfl,rfl⟩ | ⟨y,u,rfl,rfl⟩
   ·rw [yE] at h; exact SeqAt.EqAt.str_int x t j u _ _ _ _ h
   ·rw [yC] at h; exact wpAny_eqBool_str h
 «strs» := fun k x t v h=>by
  rcases bM h with ⟨i,u,rfl,e⟩ | ⟨y,u,rfl,e⟩
  ·exact nomatch e
  ·injection e with e1 _
   subst e1
   cases v <;> rfl
theorem ow (prog:Program) (w:World) (i:Int) (t:Tok):(bN prog w).is (.inl i) (.int i t)=true:=sO i t
theorem ox (prog:Program) (w:World) (x:Str) (t:Tok):(bN prog w).is (.inr x) (.str x t)=true:=sP x t
open PySem PySem.Spec PyProof.Rows
inductive V where
 | non | bl (b:Bool) | int (i:Int) | str (x:Str) | byt (b:Array UInt8) | flt (b:UInt64) | ref (a:Addr) | ty (n:String)
 deriving DecidableEq
def RelV:V->Value->Prop
 | .non,u=>u=Value.none
 | .bl b,u=>u=Value.bool b
 | .int i,u=>∃ t,u=Value.int i t
 | .str x,u=>∃ t,u=Value.str x t
 | .byt b,u=>∃ t,u=Value.bytes b t
 | .flt b,u=>∃ t,u=Value.float b t
 | .ref a,u=>u=Value.ref a
 | .ty n,u=>u=Value.type n
abbrev Vals:List V->List Value->Prop:=Paired RelV
theorem Vals.length {xs:List V} {us:List Value} (r:Vals xs us):xs.length=us.length:=Dy r
theorem Vals.get:∀ {xs:List V} {us:List Value} {i:Nat} {x:V},Vals xs us->xs[i]? = some x->∃ u,us[i]? = some u/\RelV x u
 | _,_,_,_,.nil,e=>by simp at e
 | _,_,0,_,.cons r _,e=>by simp at e; subst e; exact ⟨_,rfl,r⟩
 | _,_,i + 1,x,.cons _ t,e=>by
  obtain ⟨u,h1,h2⟩:=Vals.get (i:=i) (x:=x) t (by simpa using e)
  exact ⟨u,by simpa using h1,h2⟩
theorem Vals.set {x:V} {u:Value} (r:RelV x u):∀ {xs:List V} {us:List Value} (i:Nat),Vals xs us->Vals (xs.set i x) (us.set i u)
 | _,_,_,.nil => .nil
 | _,_,0,.cons _ t => .cons r t
 | _,_,i + 1,.cons q t => .cons q (Vals.set r i t)
theorem Vals.append:∀ {xs ys:List V} {us ws:List Value},Vals xs us->Vals ys ws->Vals (xs ++ ys) (us ++ ws)
 | _,_,_,_,.nil,s=>s
 | _,_,_,_,.cons r t,s => .cons r (Vals.append t s)
theorem Vals.take:∀ {xs:List V} {us:List Value} (n:Nat),Vals xs us->Vals (xs.take n) (us.take n)
 | _,_,0,_ => .nil
 | _,_,_ + 1,.nil => .nil
 | _,_,n + 1,.cons r t => .cons r (Vals.take n t)
theorem Vals.drop:∀ {xs:List V} {us:List Value} (n:Nat),Vals xs us->Vals (xs.drop n) (us.drop n)
 | _,_,0,r=>r
 | _,_,_ + 1,.nil => .nil
 | _,_,n + 1,.cons _ t=>Vals.drop n t
def jM:Option V->Option Value->Prop
 | some v,some u=>RelV v u
 | none,none=>True
 | _,_=>False
def KV {κ : Type}:List (κ × V)->List (κ × Value)->Prop:=Paired fun (p : κ × V) (q : κ × Value)=>p.1=q.1/\RelV p.2 q.2
def kV:Key->V
 | .inl i => .int i
 | .inr x => .str x
inductive HO where
  | lst (xs:List V)
  | tup (xs:List V)
  | dK (kvs:List (Key × V)) | dT (kvs:List (List Key × V))
  | set (S:Int->Bool) (n:Nat)
  | ins (C dx:Addr) (fs:List (Str × V))
  | own (x:Addr)
  | xd (fs:List (Str × V))
  | met (f x:Addr)
  | rng (lo hi:Int)
  | frz (o:Obj) (u:HO)
  | tbl (ps:Array Value)
  | ext (φ : Heap->Prop)
abbrev Hp:=Addr->Option HO
def upd (H:Hp) (a:Addr) (o:HO):Hp:=fun b=>if b=a then some o else H b
theorem af {H:Hp} {a:Addr} {o:HO}:upd H a o a=some o:=by unfold upd; rw [if_pos rfl]
theorem aE {H:Hp} {a b:Addr} {o:HO} (h:b ≠ a):upd H a o b=H b:=by unfold upd; rw [if_neg h]
theorem gK {H:Hp} {a b:Addr} {o u:HO} (h:H a=some o) (h':H b=some u) (d:o ≠ u):a ≠ b:=by
 intro e; subst e; rw [h] at h'; exact d (Bb h')
theorem aD {H:Hp} {a b:Addr} {o:HO} (h:H a=some o) (h':H b=none):a ≠ b:=by
 intro e; subst e; rw [h] at h'; cases h'
def d0 (h:Heap) (a:Addr) (items:Array Value):Prop:=∃ o,h.get? a=some o/\(o.cls = .type "tuple" /\ o.dict=none)/\∃ n,o.data = .seq items n
theorem d0.tup {h:Heap} {a:Addr} {items:Array Value} (x:d0 h a items):IsTup h a items:=let ⟨o,e,c,n,d⟩:=x; ⟨o,e,c.1,n,d⟩
theorem d0.new (h:Heap) (items:Array Value):d0 (h.push { cls := .type "tuple",data := .seq items }) h.objs.size items:=⟨_,A0 _ rfl,⟨rfl,rfl⟩,_,rfl⟩
section
variable (P:Program) (w:World)
def bA (H:Hp) (h:Heap) (a:Addr):HO->Prop
 | .lst xs=>xs.length<=sizeLine/\∃ (its:List Value) (n:Nat),Vals xs its/\h.get? a=some { cls := .type "list",data := .seq its.toArray n }
 | .tup xs=>xs.length<=sizeLine/\∃ its:List Value,Vals xs its/\d0 h a its.toArray
 | .dK kvs=>kvs.length<=sizeLine/\(a == sysModules)=false/\∃ vs,KV kvs vs/\h.DictOf (bN P w) a vs
 | .dT kvs=>kvs.length<=sizeLine/\(a == sysModules)=false/\∃ xs:List (List Key × Addr × Value),
   Paired (fun (p:List Key × V) (q:List Key × Addr × Value)=>p.1=q.1/\H q.2.1=some (.tup (p.1.map kV))/\RelV p.2 q.2.2) kvs xs ∧
   ∃ o es ep,h.get? a=some o/\o.ExactDict/\o.data = .dict es ep/\es.toList=xs.map (entryOfKey (tupleKind (bN P w)))/\(xs.map (·.1)).Nodup
 | .set S n=>h.SetOf (intKind P w) a S n
 | .ins C dx fs=>H dx=some (.own a)/\fs.length<=1000/\dx ≠ a/\h.get? a=some (PySem.W.instObj C dx) ∧
   ∃ mA,h.Ns1 dx mA/\(∀ f,jM (fs.lookup f) (mA f))/\PySem.Within mA (fs.map (·.1))
 | .own _=>∃ o,h.get? a=some o
 | .xd fs=>∃ mA,h.Ns1 a mA/\∀ f,jM (fs.lookup f) (mA f)
 | .rng lo hi=>∃ t u v,h.get? a=some { cls := .type "range",data := .fields #[.int lo t,.int hi u,.int 1 v] }
 | .frz o u=>h.get? a=some o/\bA H h a u
 | .tbl ps=>h.get? a=some { cls := .none,data := .fields ps }
 | .met f x=>h.get? a=some (PySem.W.methodObj (.ref f) (.ref x))
 | .ext φ => φ h/\(∃ o,h.get? a=some o)/\∀ h1 h2:Heap, φ h1->(∀ o,h1.get? a=some o->h2.get? a=some o) -> φ h2
def HOk (H:Hp) (h:Heap):Prop:=∀ a o,H a=some o->bA P w H h a o
end
section
variable {P:Program} {w:World} {H H':Hp} {h h':Heap} {a:Addr} {o:HO}
theorem bA.lt (x:bA P w H h a o):a < h.objs.size:=by
 cases o with
 | lst xs=>obtain ⟨_,_,_,_,e⟩:=x; exact A1 e
 | tup xs=>obtain ⟨_,_,_,p⟩:=x; exact (d0.tup p).lt
 | dK kvs=>obtain ⟨_,_,_,_,o,_,_,e,_⟩:=x; exact A1 e
 | dT kvs=>obtain ⟨_,_,_,_,o,_,_,e,_⟩:=x; exact A1 e
 | set S n=>obtain ⟨o,_,_,_,e,_⟩:=x; exact A1 e
 | ins C dx fs=>obtain ⟨_,_,_,e,_⟩:=x; exact A1 e
 | own y=>obtain ⟨_,e⟩:=x; exact A1 e
 | xd fs=>obtain ⟨_,⟨_,_,_,e,_⟩,_⟩:=x; exact A1 e
 | rng lo hi=>obtain ⟨_,_,_,e⟩:=x; exact A1 e
 | frz ob u=>obtain ⟨e,_⟩:=x; exact A1 e
 | tbl ps=>exact A1 (show h.get? a=some _ from x)
 | met f y=>exact A1 (show h.get? a=some _ from x)
 | ext φ => obtain ⟨_,⟨_,e⟩,_⟩:=x; exact A1 e
theorem Paired.yF {α β : Type} {F G : α -> β -> Prop}:∀ {l₁:List α} {l₂:List β},Paired F l₁ l₂->(∀ a b,F a b->G a b)->Paired G l₁ l₂
 | _,_,.nil,_ => .nil
 | _,_,.cons r t,f => .cons (f _ _ r) (Paired.yF t f)
theorem bA.stay (x:bA P w H h a o) (k:∀ b u,(b=a\/H b=some (.own a))->h.get? b=some u->h'.get? b=some u)
  (ho:∀ b,H b=some (.own a)->H' b=some (.own a)) (ht:∀ b xs,H b=some (.tup xs)->H' b=some (.tup xs)):bA P w H' h' a o:=by
 induction o with
 | lst xs=>obtain ⟨z,its,n,r,e⟩:=x; exact ⟨z,its,n,r,k _ _ (.inl rfl) e⟩
 | tup xs=>obtain ⟨z,its,r,ob,e,c⟩:=x; exact ⟨z,its,r,ob,k _ _ (.inl rfl) e,c⟩
 | dK kvs=>obtain ⟨z,y,vs,r,ob,es,ep,e,c⟩:=x; exact ⟨z,y,vs,r,ob,es,ep,k _ _ (.inl rfl) e,c⟩
 | dT kvs =>
  obtain ⟨z,y,xs,r,ob,es,ep,e,c⟩:=x
  exact ⟨z,y,xs,Paired.yF r fun p q z=>⟨z.1,ht _ _ z.2.1,z.2.2⟩,ob,es,ep,k _ _ (.inl rfl) e,c⟩
 | set S n=>obtain ⟨ob,es,ep,t,e,c⟩:=x; exact ⟨ob,es,ep,t,k _ _ (.inl rfl) e,c⟩
 | ins C dx fs =>
  obtain ⟨d,z,ne,e,mA,⟨od,es,ep,e2,c⟩,r⟩:=x
  exact ⟨ho _ d,z,ne,k _ _ (.inl rfl) e,mA,⟨od,es,ep,k _ _ (.inr d) e2,c⟩,r⟩
 | own y=>obtain ⟨ob,e⟩:=x; exact ⟨ob,k _ _ (.inl rfl) e⟩
 | xd fs=>obtain ⟨mA,⟨od,es,ep,e,c⟩,r⟩:=x; exact ⟨mA,⟨od,es,ep,k _ _ (.inl rfl) e,c⟩,r⟩
 | rng lo hi=>obtain ⟨t,u,v,e⟩:=x; exact ⟨t,u,v,k _ _ (.inl rfl) e⟩
 | frz ob u ih=>obtain ⟨e,q⟩:=x; exact ⟨k _ _ (.inl rfl) e,ih q⟩
 | tbl ps =>
  have e:h.get? a=some { cls := .none,data := .fields ps }:=x
  show h'.get? a=some { cls := .none,data := .fields ps }
  exact k a _ (.inl rfl) e
 | met f y =>
  have e:h.get? a=some (PySem.W.methodObj (.ref f) (.ref y)):=x
  show h'.get? a=some (PySem.W.methodObj (.ref f) (.ref y))
  exact k a _ (.inl rfl) e
 | ext φ => obtain ⟨p,⟨o,e⟩,st⟩:=x; exact ⟨st _ _ p fun o q=>k _ _ (.inl rfl) q,⟨o,k _ _ (.inl rfl) e⟩,st⟩
theorem HOk.lt (x:HOk P w H h) (e:H a=some o):a < h.objs.size:=(x a o e).lt
theorem HOk.fresh (x:HOk P w H h) (e:h.objs.size<=a):H a=none:=by
 cases q:H a with
 | none=>rfl
 | some u=>exact absurd (Ba (x.lt q) e) (BB _)
theorem HOk.kept (x:HOk P w H h) (k:∀ b u,h.get? b=some u->h'.get? b=some u):HOk P w H h':=fun a o e =>
 (x a o e).stay (fun b u _ q=>k b u q) (fun _ q=>q) fun _ _ q=>q
theorem HOk.laid (x:HOk P w H h) (k:∀ b u,h.get? b=some u->h'.get? b=some u) (hp:h.objs.size<=a) (new:bA P w (upd H a o) h' a o):HOk P w (upd H a o) h':=fun b u e=>by
 have hn:=x.fresh hp
 by_cases hb:b=a
 ·subst hb; rw [af] at e; cases e; exact new
 ·rw [aE hb] at e
  exact (x b u e).stay (fun c v _ q=>k c v q) (fun c q=>by rw [aE (aD q hn)]; exact q) fun c xs q=>by rw [aE (aD q hn)]; exact q
end
def Rd (H:Hp) (a:Addr) (u:HO):Prop:=H a=some u\/∃ o,H a=some (.frz o u)
theorem Rd.ok {P:Program} {w:World} {H:Hp} {h:Heap} {a:Addr} {u:HO} (r:Rd H a u) (x:HOk P w H h):bA P w H h a u:=by
 rcases r with r | ⟨o,r⟩
 ·exact x a u r
 ·obtain ⟨_,q⟩:=x a _ r
  exact q
def Mut:Option HO->Prop
 | some (.lst _)=>True
 | some (.dK _)=>True
 | some (.dT _)=>True
 | some (.set _ _)=>True
 | some (.ins _ _ _)=>True
 | some (.ext _)=>True
 | _=>False
section
variable {P:Program} {w:World} {H:Hp} {h h':Heap} {x e:Addr} {o':HO}
theorem HOk.write (ok:HOk P w H h) (mu:Mut (H x)) (he:e=x\/H e=some (.own x)) (k:∀ b u,b ≠ e->h.get? b=some u->h'.get? b=some u) (heo:∃ u,h'.get? e=some u)
  (new:bA P w (upd H x o') h' x o'):HOk P w (upd H x o') h':=fun b u q=>by
 have nown:∀ c y,H c=some (.own y)->c ≠ x:=fun c y r z=>by subst z; rw [r] at mu; exact mu
 have ntup:∀ c xs,H c=some (.tup xs)->c ≠ x:=fun c xs r z=>by subst z; rw [r] at mu; exact mu
 by_cases hb:b=x
 ·subst hb; rw [af] at q; cases q; exact new
 ·rw [aE hb] at q
  by_cases hbe:b=e
  ·have q':H b=some (.own x):=by
    rcases he with z | z
    ·exact absurd (hbe.trans z) hb
    ·rw [hbe]; exact z
   rw [q] at q'; cases q'
   obtain ⟨v,hv⟩:=heo
   exact ⟨v,by rw [hbe]; exact hv⟩
  ·refine (ok b u q).stay (fun c v hc r=>k c v ?_ r) (fun c r=>by rw [aE (nown c b r)]; exact r) fun c xs r=>by rw [aE (ntup c xs r)]; exact r
   rcases hc with rfl | hc
   ·exact hbe
   ·rintro rfl
    rcases he with z | z
    ·exact nown c b hc z
    ·rw [hc] at z; cases z; exact hb rfl
end
structure Un (fs ex:List Addr) (H H':Hp) (h h':Heap):Prop where
 keep:∀ b o,h.get? b=some o->H b=none->b ∉ fs->b ∉ ex->h'.get? b=some o
 slot:∀ b o,h.get? b=some o->H b=none->b ∈ fs->b ∉ ex->∃ sl,h'.get? b=some { o with slots:=sl }
 free:∀ b o,h.get? b=some o->H b=none->b ∉ ex->H' b=none
 there:∀ b o,h.get? b=some o->b ∉ ex->∃ o',h'.get? b=some o'
 tups:∀ b xs,H b=some (.tup xs)->H' b=some (.tup xs)
 frzs:∀ b o u,H b=some (.frz o u)->H' b=some (.frz o u)
 tbls:∀ b ps,H b=some (.tbl ps)->∃ more,H' b=some (.tbl (ps ++ more))
section
variable {fs fs' ex ex':List Addr} {H H1 H2:Hp} {h h1 h2 h':Heap} {a x e:Addr} {o:HO}
theorem Un.any (u:Un fs ex H H1 h h1) {b:Addr} {ob:Obj} (q:h.get? b=some ob) (n:H b=none) (hx:b ∉ ex):∃ sl,h1.get? b=some { ob with slots:=sl }:=by
 by_cases hb:b ∈ fs
 ·exact u.slot b ob q n hb hx
 ·exact ⟨ob.slots,u.keep b ob q n hb hx⟩
theorem Un.kept (k:∀ b u,h.get? b=some u->h'.get? b=some u):Un fs ex H H h h' :=
 ⟨fun b ob q _ _ _=>k b ob q,fun b ob q _ _ _=>⟨ob.slots,k b ob q⟩,fun _ _ _ n _=>n,fun b ob q _=>⟨ob,k b ob q⟩,fun _ _ q=>q,fun _ _ _ q=>q,fun _ ps q=>⟨#[],by rw [q]; simp⟩⟩
theorem Un.refl:Un fs ex H H h h:=Un.kept fun _ _ q=>q
theorem Un.laid (k:∀ b u,h.get? b=some u->h'.get? b=some u) (hp:h.objs.size<=a) (hn:H a=none):Un fs ex H (upd H a o) h h' where
 keep:=fun b u q _ _ _=>k b u q
 slot:=fun b u q _ _ _=>⟨u.slots,k b u q⟩
 free:=fun b u q n _=>by rw [aE (A5 (Ba (A1 q) hp))]; exact n
 there:=fun b u q _=>⟨u,k b u q⟩
 tups:=fun b xs q=>by rw [aE (aD q hn)]; exact q
 frzs:=fun b u xs q=>by rw [aE (aD q hn)]; exact q
 tbls:=fun b ps q=>⟨#[],by rw [aE (aD q hn),q]; simp⟩
theorem Un.write (mu:Mut (H x)) (he:e=x\/H e=some (.own x)) (k:∀ b u,b ≠ e->h.get? b=some u->h'.get? b=some u) (heo:∃ u,h'.get? e=some u):Un fs ex H (upd H x o) h h':=by
 have hx:∀ b,H b=none->b ≠ x:=fun b n z=>by subst z; rw [n] at mu; exact mu
 have hb:∀ b,H b=none->b ≠ e:=fun b n z=>by
  subst z
  rcases he with r | r
  ·exact hx b n r
  ·rw [n] at r; cases r
 have hm:∀ b u,H b=some u->¬ Mut (some u)->b ≠ x:=fun b u q nm z=>by subst z; rw [q] at mu; exact nm mu
 refine ⟨fun b u q n _ _=>k b u (hb b n) q,fun b u q n _ _=>⟨u.slots,k b u (hb b n) q⟩,fun b u q n _=>by rw [aE (hx b n)]; exact n,fun b u q _ => ?_,
  fun b xs q=>by rw [aE (hm b _ q fun z=>z)]; exact q,fun b u xs q=>by rw [aE (hm b _ q fun z=>z)]; exact q,fun b ps q=>⟨#[],by rw [aE (hm b _ q fun z=>z),q]; simp⟩⟩
 by_cases hbe:b=e
 ·subst hbe; exact heo
 ·exact ⟨u,k b u hbe q⟩
end
def trk (h:Heap) (H:Hp):List Addr:=(List.range h.objs.size).filter fun a=>(H a).isSome
def nk (h:Heap) (H:Hp):Heap:=PySem.W.hideAll h (trk h H)
theorem sQ (h:Heap) (H:Hp):(nk h H).objs.size=h.objs.size:=PySem.W.hideAll_size _ _
theorem uA {h:Heap} {H:Hp} {b:Addr} {o:Obj} (e:h.get? b=some o) (n:H b=none):(nk h H).get? b=some o :=
 PySem.W.hideAll_get _ e fun hm=>by
  have q:(H b).isSome=true:=(Cj.mp hm).2
  rw [n] at q; simp at q
theorem wD {h:Heap} {H:Hp} {b:Addr} {o:Obj} (e:(nk h H).get? b=some o):h.get? b=some o/\H b=none:=by
 have e':h.get? b=some o:=PySem.W.of_hideAll (trk h H) e
 refine ⟨e',?_⟩
 cases q:H b with
 | none=>rfl
 | some x =>
  have hm:b ∈ trk h H:=Cj.mpr ⟨BP.mpr (A1 e'),by simp [q]⟩
  have z:(nk h H).get? b=none:=PySem.W.hideAll_none (trk h H) hm
  rw [z] at e; cases e
def wF (g h:Heap) (L:Addr):List (Addr × Obj):=(List.range h.objs.size).filterMap fun a=>if a=L\/(g.get? a).isSome=true then none else (h.get? a).map fun o=>(a,o)
def rest (g h:Heap) (L d:Addr):List (Addr × Obj):=(wF g h L).filter fun p=>decide (p.1 ≠ d)
open PySem PySem.Spec PyProof.Rows
structure Mod (K:PySem.W.Frag) (mg:Str->Option Value) (base:Heap):Prop where
 kin:K.In base
 glob:base.Ns mainGlobals mg
 blt:∃ mb,base.Ns builtinsNs mb/\∀ x:Str,x ≠ "__name__" -> mb x=bootBuiltins x
 nolimit:base.NoLimit
structure Cx where
 prog:Program
 w:World
 K:PySem.W.Frag
 mg:Str->Option Value
 base:Heap
 A:Around
 N:List Str
 s₀:Shared
 H₀:Hp
 env:Env
 outer:List Env
 stack:List Env
 ex:List Addr
 fn:Str->Bool
 calm:Bool
 pn:List (Addr × Obj)
 xe:Value->Shared->Prop
def frs (l:List Env):List Addr:=l.filterMap (·.frame)
abbrev Cx.fs (X:Cx):List Addr:=frs X.outer
def Vis (sc:Scope) (x:Str):Prop:=sc.names.lookup x=some .local\/sc.names.lookup x=some .cell\/sc.names.lookup x=some .free
def Loc (sc:Scope) (x:Str):Prop:=sc.names.lookup x=some .local\/sc.names.lookup x=some .cell
def Look (env:Env) (h:Heap) (m:Str->Option Value) (x:Str) (u:Value):Prop :=
 (env.kindOf x=some .local/\m x=some u)\/((env.kindOf x=some .cell\/env.kindOf x=some .free)/\∃ c,env.cells.lookup x=some c/\h.IsCell c (some u))
structure Cx.Ok (X:Cx):Prop where
 mod:Mod X.K X.mg X.base
 kind:X.env.scope.kind = .function
 glob:X.env.globals=mainGlobals
 blt:X.env.builtins=builtinsNs
 above:X.s₀.heap.objs.size<=X.env.locals
 inj:∀ x y c,X.env.cells.lookup x=some c->X.env.cells.lookup y=some c->x=y
 has:∀ x,(X.env.kindOf x=some .cell\/X.env.kindOf x=some .free)->∃ c,X.env.cells.lookup x=some c
 cab:∀ x c,X.fn x=true->X.env.cells.lookup x=some c->X.s₀.heap.objs.size<=c
 hd:X.calm=true->X.A.handled=none
 frames:X.A.frames=some X.stack
 stk:X.stack=X.outer\/(X.stack=X.env :: X.outer/\X.env.frame=some X.env.locals)
 exf:∀ b ∈ X.ex,b ≠ X.env.locals/\∀ x c,X.env.cells.lookup x=some c->c ≠ b
 bs:∀ b o,X.base.get? b=some o->X.s₀.heap.get? b=some o/\X.H₀ b=none
 bsz:X.base.objs.size<=X.s₀.heap.objs.size
 noex:∀ b o,X.base.get? b=some o->b ∉ X.ex
 exfs:∀ b ∈ X.ex,b ∉ X.fs
 funs:X.s₀.heap.FunFrames X.base X.outer
 frf:∀ b ∈ X.fs,X.H₀ b=none
structure Inv (X:Cx) (pins:List (Addr × Obj)) (σ:List (Option V)) (H:Hp) (s:Shared):Prop where
 ok:X.Ok
 os:s.os=X.s₀.os
 bare:AllBare s.gens
 base:Un X.fs X.ex X.H₀ H X.s₀.heap s.heap
 loc:∃ m,s.heap.Ns X.env.locals m/\∀ (i:Nat) (x:Str) (v:V),X.N[i]? = some x->σ[i]? = some (some v)->Vis X.env.scope x->∃ u,RelV v u/\Look X.env s.heap m x u
 cell:∀ x c,X.env.cells.lookup x=some c->∃ v,s.heap.IsCell c v
 free:H X.env.locals=none
 freeC:∀ x c,X.env.cells.lookup x=some c->H c=none
 pin:∀ p ∈ X.pn ++ pins,s.heap.get? p.1=some p.2/\H p.1=none/\p.1 ≠ X.env.locals/\p.1 ∉ X.fs/\∀ v,p.2.data ≠ .cell v
 hok:HOk X.prog X.w H s.heap
 len:σ.length=X.N.length
section
variable {X:Cx} {pins:List (Addr × Obj)} {σ:List (Option V)} {H H':Hp} {s:Shared} {h':Heap}
theorem Cx.Ok.nofr (ok:X.Ok) {b:Addr} {o:Obj} (e:X.base.get? b=some o):b ∉ X.fs:=fun hb=>by
 have:=(ok.funs.mem hb).1
 rw [e] at this; cases this
theorem Inv.bs (I:Inv X pins σ H s):∀ b o,X.base.get? b=some o->s.heap.get? b=some o/\H b=none:=fun b o e =>
 ⟨I.base.keep b o (I.ok.bs b o e).1 (I.ok.bs b o e).2 (I.ok.nofr e) (I.ok.noex b o e),I.base.free b o (I.ok.bs b o e).1 (I.ok.bs b o e).2 (I.ok.noex b o e)⟩
theorem Inv.bk (I:Inv X pins σ H s):∀ b o,X.base.get? b=some o->s.heap.get? b=some o:=fun b o e=>(I.bs b o e).1
theorem Inv.mod (I:Inv X pins σ H s):Mod X.K X.mg X.base:=I.ok.mod
theorem Inv.kIn (I:Inv X pins σ H s):X.K.In s.heap:=I.ok.mod.kin.keeps I.bk
theorem Inv.lt (I:Inv X pins σ H s):X.env.locals < s.heap.objs.size:=let ⟨_,hn,_⟩:=I.loc; hn.lt
theorem Inv.sz (I:Inv X pins σ H s):X.s₀.heap.objs.size<=s.heap.objs.size:=BF I.ok.above (DP I.lt)
theorem Inv.yG (I:Inv X pins σ H s) {a:Addr} (h:s.heap.objs.size<=a):a ∉ X.fs:=fun hb=>by
 obtain ⟨_,o,ho,_⟩:=I.ok.funs.mem hb
 exact absurd (Ba (A1 ho) (BF I.sz h)) (BB _)
theorem Inv.cne (I:Inv X pins σ H s):∀ x c,X.env.cells.lookup x=some c->c ≠ X.env.locals:=fun x c e z=>by
 obtain ⟨v,o,ho,hd⟩:=I.cell x c e
 obtain ⟨m,⟨o',es,ep,ho',hd',_⟩,_⟩:=I.loc
 rw [z,ho'] at ho; cases ho; rw [hd'] at hd; cases hd
theorem Inv.funs (I:Inv X pins σ H s):s.heap.FunFrames X.base X.outer:=by
 have all:∀ (l:List Env),(∀ b ∈ frs l,b ∈ X.fs)->X.s₀.heap.FunFrames X.base l->s.heap.FunFrames X.base l:=by
  intro l
  induction l with
  | nil=>intro _ _; trivial
  | cons env r ih =>
   intro hs hl
   obtain ⟨hk,⟨L,o,hf,hn,ho,hd⟩,hr⟩:=hl
   have hL:L ∈ X.fs:=hs L (by unfold frs; rw [EB,hf]; exact Bg)
   obtain ⟨sl,e⟩:=I.base.slot L o ho (I.ok.frf L hL) hL fun z=>I.ok.exfs L z hL
   exact ⟨hk,⟨L,_,hf,hn,e,hd⟩,ih (fun b hb=>hs b (by unfold frs; rw [EB,hf]; exact Bh _ hb)) hr⟩
 exact all X.outer (fun _ hb=>hb) I.ok.funs
theorem Inv.stack (I:Inv X pins σ H s):s.heap.FunFrames X.base X.stack:=by
 rcases I.ok.stk with e | ⟨e,hf⟩
 ·rw [e]; exact I.funs
 ·rw [e]
  obtain ⟨m,hn,_⟩:=I.loc
  refine .cons (by rw [I.ok.kind]; decide) hf hn ?_ I.funs
  exact Heap.get?_none_of_le (BF I.ok.bsz I.ok.above)
theorem Inv.nq (I:Inv X pins σ H s):∀ b ∈ frs X.stack,b ∈ X.env.locals :: X.fs:=fun b hb=>by
 rcases I.ok.stk with e | ⟨e,hf⟩
 ·rw [e] at hb; exact Bh _ hb
 ·rw [e] at hb
  unfold frs at hb
  rw [EB,hf] at hb
  exact hb
theorem Inv.rz (I:Inv X pins σ H s):∀ b ∈ frs X.stack,H b=none:=fun b hb=>by
 rcases A6.mp (I.nq b hb) with e | hb
 ·rw [e]; exact I.free
 ·obtain ⟨_,o,ho,_⟩:=I.ok.funs.mem hb
  exact I.base.free b o ho (I.ok.frf b hb) fun z=>I.ok.exfs b z hb
theorem Inv.step {g':Array GenState} {t':Nat} {d':Drawn} {ch:List Addr} (I:Inv X pins σ H s)
  (hch:∀ b ∈ ch,(b ∈ X.ex\/X.s₀.heap.objs.size<=b)/\b ≠ X.env.locals/\(∀ x c,X.env.cells.lookup x=some c->c ≠ b)/\∀ p ∈ X.pn ++ pins,p.1 ≠ b)
  (keep:∀ b o,b ≠ X.env.locals->b ∉ X.fs->b ∉ ch->s.heap.get? b=some o->H b=none->h'.get? b=some o)
  (slot:∀ b o,b ≠ X.env.locals->b ∈ X.fs->b ∉ ch->s.heap.get? b=some o->H b=none->∃ sl,h'.get? b=some { o with slots:=sl }) (free:∀ b o,b ∉ ch->s.heap.get? b=some o->H b=none->H' b=none)
  (there:∀ b o,b ∉ ch->s.heap.get? b=some o->∃ o',h'.get? b=some o')
  (tups:∀ b xs,H b=some (.tup xs)->H' b=some (.tup xs)) (frzs:∀ b o u,H b=some (.frz o u)->H' b=some (.frz o u)) (tbls:∀ b ps,H b=some (.tbl ps)->∃ more,H' b=some (.tbl (ps ++ more)))
  (ns:∀ m,s.heap.Ns X.env.locals m->h'.Ns X.env.locals m) (hok:HOk X.prog X.w H' h') (hg:AllBare g') :
  Inv X pins σ H' { s with heap:=h',gens:=g',drawn:=d',toks:=t' }:=by
 have neL:∀ b o,X.s₀.heap.get? b=some o->b ≠ X.env.locals:=fun b o e=>A5 (Ba (A1 e) I.ok.above)
 have neC:∀ b o,X.s₀.heap.get? b=some o->b ∉ X.ex->b ∉ ch:=fun b o e hx hb=>by
  rcases (hch b hb).1 with z | z
  ·exact hx z
  ·exact absurd (Ba (A1 e) z) (BB _)
 have cellK:∀ x c,X.env.cells.lookup x=some c->∀ v,s.heap.IsCell c v->h'.IsCell c v:=fun x c e v ⟨o,ho,hd⟩=>by
  have nch:c ∉ ch:=fun z=>(hch c z).2.2.1 x c e rfl
  by_cases hc:c ∈ X.fs
  ·obtain ⟨sl,q⟩:=slot c o (I.cne x c e) hc nch ho (I.freeC x c e)
   exact ⟨_,q,hd⟩
  ·exact ⟨o,keep c o (I.cne x c e) hc nch ho (I.freeC x c e),hd⟩
 refine ⟨I.ok,I.os,hg,⟨fun b o e n hb hx => ?_,fun b o e n hb hx => ?_,fun b o e n hx => ?_,fun b o e hx => ?_,fun b xs e=>tups b xs (I.base.tups b xs e),fun b o xs e=>frzs b o xs (I.base.frzs b o xs e),fun b ps e => ?_⟩,?_,fun x c e => ?_,?_,fun x c e => ?_,fun p hp => ?_,hok,I.len⟩
 ·exact keep b o (neL b o e) hb (neC b o e hx) (I.base.keep b o e n hb hx) (I.base.free b o e n hx)
 ·obtain ⟨sl,e1⟩:=I.base.slot b o e n hb hx
  obtain ⟨sl',e2⟩:=slot b _ (neL b o e) hb (neC b o e hx) e1 (I.base.free b o e n hx)
  exact ⟨sl',e2⟩
 ·obtain ⟨o',e1⟩:=I.base.there b o e hx
  exact free b o' (neC b o e hx) e1 (I.base.free b o e n hx)
 ·obtain ⟨o',e1⟩:=I.base.there b o e hx
  exact there b o' (neC b o e hx) e1
 ·obtain ⟨m1,e1⟩:=I.base.tbls b ps e
  obtain ⟨m2,e2⟩:=tbls b _ e1
  exact ⟨m1 ++ m2,by rw [e2,Array.append_assoc]⟩
 ·obtain ⟨m,hn,hl⟩:=I.loc
  refine ⟨m,ns m hn,fun i x v e1 e2 e3 => ?_⟩
  obtain ⟨u,r,l⟩:=hl i x v e1 e2 e3
  refine ⟨u,r,?_⟩
  rcases l with l | ⟨k,c,e,z⟩
  ·exact .inl l
  ·exact .inr ⟨k,c,e,cellK x c e _ z⟩
 ·obtain ⟨v,z⟩:=I.cell x c e
  exact ⟨v,cellK x c e v z⟩
 ·obtain ⟨m,⟨o,_,_,ho,_⟩,_⟩:=I.loc
  exact free _ o (fun z=>(hch _ z).2.1 rfl) ho I.free
 ·obtain ⟨v,o,ho,hd⟩:=I.cell x c e
  exact free c o (fun z=>(hch c z).2.2.1 x c e rfl) ho (I.freeC x c e)
 ·obtain ⟨e,n,ne,nf,d⟩:=I.pin p hp
  have nch:p.1 ∉ ch:=fun z=>(hch p.1 z).2.2.2 p hp rfl
  exact ⟨keep p.1 p.2 ne nf nch e n,free p.1 p.2 nch e n,ne,nf,d⟩
theorem Inv.un {t':Nat} (I:Inv X pins σ H s) (u:Un X.fs [] H H' s.heap h') (hok:HOk X.prog X.w H' h'):Inv X pins σ H' { s with heap:=h',toks:=t' }:=by
 obtain ⟨m,⟨o,es,ep,ho,r⟩,_⟩:=id I.loc
 obtain ⟨sl,hL⟩:=u.any ho I.free (by simp)
 exact I.step (g':=s.gens) (d':=s.drawn) (ch:=[]) (fun _ z=>nomatch z) (fun b o _ hb _ e n=>u.keep b o e n hb (by simp)) (fun b o _ hb _ e n=>u.slot b o e n hb (by simp)) (fun b o _ e n=>u.free b o e n (by simp)) (fun b o _ e=>u.there b o e (by simp)) u.tups u.frzs u.tbls (fun m' hm=>by
  obtain ⟨o',es',ep',ho',r'⟩:=hm
  rw [ho] at ho'; cases ho'
  exact ⟨_,es',ep',hL,r'⟩) hok I.bare
theorem Inv.call {g':Array GenState} {t':Nat} {d':Drawn} {ch:List Addr} (I:Inv X pins σ H s) (u:Un (frs X.stack) ch H H' s.heap h') (hok:HOk X.prog X.w H' h') (hg:AllBare g')
  (hch:∀ b ∈ ch,(b ∈ X.ex\/X.s₀.heap.objs.size<=b)/\b ≠ X.env.locals/\(∀ x c,X.env.cells.lookup x=some c->c ≠ b)/\∀ p ∈ X.pn ++ pins,p.1 ≠ b) :
  Inv X pins σ H' { s with heap:=h',gens:=g',drawn:=d',toks:=t' }:=by
 obtain ⟨m,⟨o,es,ep,ho,r⟩,_⟩:=id I.loc
 obtain ⟨sl,hL⟩:=u.any ho I.free fun z=>(hch _ z).2.1 rfl
 exact I.step (ch:=ch) hch (fun b o hL hb hc e n=>u.keep b o e n (fun z=>(A6.mp (I.nq b z)).elim hL hb) hc) (fun b o _ _ hc e n=>u.any e n hc) (fun b o hc e n=>u.free b o e n hc) (fun b o hc e=>u.there b o e hc) u.tups u.frzs u.tbls (fun m' hm=>by
  obtain ⟨o',es',ep',ho',r'⟩:=hm
  rw [ho] at ho'; cases ho'
  exact ⟨_,es',ep',hL,r'⟩) hok hg
theorem Inv.turned {t':Nat} {it:Addr} (I:Inv X pins σ H s) (k:∀ b o,b ≠ it->s.heap.get? b=some o->h'.get? b=some o) (hn:H it=none) (hL:it ≠ X.env.locals)
  (h1:it ∈ X.ex\/X.s₀.heap.objs.size<=it) (h2:∀ x c,X.env.cells.lookup x=some c->c ≠ it) (h3:∀ p ∈ X.pn ++ pins,p.1 ≠ it):Inv X pins σ H { s with heap:=h',toks:=t' }:=by
 have nit:∀ b u,H b=some u->b ≠ it:=fun b u e z=>by rw [z,hn] at e; cases e
 refine I.step (g':=s.gens) (d':=s.drawn) (ch:=[it]) (fun b hb => ?_) (fun b o _ _ hc e _=>k b o (fun z=>hc (by simp [z])) e) (fun b o _ _ hc e _=>⟨o.slots,k b o (fun z=>hc (by simp [z])) e⟩) (fun _ _ _ _ n=>n)
  (fun b o hc e=>⟨o,k b o (fun z=>hc (by simp [z])) e⟩) (fun _ _ e=>e) (fun _ _ _ e=>e) (fun b ps e=>⟨#[],by rw [e]; simp⟩) (fun m hm => ?_) (fun b u e => ?_) I.bare
 ·have e:b=it:=by simpa using hb
  subst e
  exact ⟨h1,hL,h2,h3⟩
 ·obtain ⟨o,es,ep,ho,r⟩:=hm
  exact ⟨o,es,ep,k _ o (BN hL) ho,r⟩
 ·refine (I.hok b u e).stay (fun c v hc q=>k c v ?_ q) (fun _ q=>q) fun _ _ q=>q
  rcases hc with z | z
  ·rw [z]; exact nit b u e
  ·exact nit c _ z
theorem Inv.tok (I:Inv X pins σ H s) (t:Nat):Inv X pins σ H { s with toks:=t }:=I.un (h':=s.heap) (t':=t) Un.refl I.hok
theorem Inv.kept {t':Nat} (I:Inv X pins σ H s) (k:∀ b u,s.heap.get? b=some u->h'.get? b=some u):Inv X pins σ H { s with heap:=h',toks:=t' }:=I.un (Un.kept k) (I.hok.kept k)
theorem Inv.laid {a:Addr} {o:HO} {t':Nat} (I:Inv X pins σ H s) (k:∀ b u,s.heap.get? b=some u->h'.get? b=some u) (hp:s.heap.objs.size<=a) (new:bA X.prog X.w (upd H a o) h' a o) :
  Inv X pins σ (upd H a o) { s with heap:=h',toks:=t' }:=I.un (Un.laid k hp (I.hok.fresh hp)) (I.hok.laid k hp new)
theorem Inv.write {x e:Addr} {o:HO} {t':Nat} (I:Inv X pins σ H s) (mu:Mut (H x)) (he:e=x\/H e=some (.own x)) (k:∀ b u,b ≠ e->s.heap.get? b=some u->h'.get? b=some u) (heo:∃ u,h'.get? e=some u)
  (new:bA X.prog X.w (upd H x o) h' x o):Inv X pins σ (upd H x o) { s with heap:=h',toks:=t' }:=I.un (Un.write mu he k heo) (I.hok.write mu he k heo new)
theorem Inv.hX {pins':List (Addr × Obj)} (I:Inv X pins σ H s) (h:∀ p ∈ pins',s.heap.get? p.1=some p.2/\H p.1=none/\p.1 ≠ X.env.locals/\p.1 ∉ X.fs/\∀ v,p.2.data ≠ .cell v):Inv X pins' σ H s :=
 ⟨I.ok,I.os,I.bare,I.base,I.loc,I.cell,I.free,I.freeC,fun p hp=>(A2.mp hp).elim (fun z=>I.pin p (Bp _ z)) (h p),I.hok,I.len⟩
theorem oy {N:List Str} (hN:N.Nodup) {i j:Nat} {x:Str} (a:N[i]? = some x) (b:N[j]? = some x):i=j:=by
 obtain ⟨h1,e1⟩:=AU.mp a
 obtain ⟨h2,e2⟩:=AU.mp b
 exact (Gv hN).mp (e1.trans e2.symm)
theorem sR {M:Model} {A:Around} {E:Value->Shared->Prop} {i:Nat} {x:Str} {v:V} {u:Value} {Q:Unit->Shared->Prop} (I:Inv X pins σ H s) (hN:X.N.Nodup) (hi:X.N[i]? = some x) (hx:Loc X.env.scope x) (r:RelV v u)
  (h:∀ s',Inv X pins (σ.set i (some v)) H s'->(∃ a,Heap.SameBut a s.heap s'.heap/\(a=X.env.locals\/X.env.cells.lookup x=some a))->Q () s') (hf:X.fn x=true\/X.env.scope.names.lookup x=some .local:=by first | exact .inl rfl | exact .inr rfl | assumption):wpAny M A (storeName X.env x u) Q E s:=by
 obtain ⟨m,hn,hl⟩:=id I.loc
 have hcls:(X.env.scope.kind == .class || (X.env.scope.kind == .module && X.env.locals != X.env.globals))=false:=by rw [I.ok.kind]; rfl
 have hiσ:i < σ.length:=by rw [I.len]; exact (AU.mp hi).1
 have cne:=I.cne
 have tracked:∀ {a:Addr} {h':Heap},(∃ o,s.heap.get? a=some o/\H a=none)->Heap.SameBut a s.heap h'->HOk X.prog X.w H h':=fun {a h'} ha hs b ob e=>by
  obtain ⟨_,_,hfree⟩:=ha
  refine (I.hok b ob e).stay (fun c w' hc q=>(hs.2 c ?_).trans q) (fun _ q=>q) fun _ _ q=>q
  rintro rfl
  rcases hc with rfl | hc
  ·rw [hfree] at e; cases e
  ·rw [hfree] at hc; cases hc
 rcases hx with hk | hk
 ·refine wpAny_storeName_local hk hn (fun h' hn' hs => ?_) hcls
  obtain ⟨oL,_,_,hoL,_⟩:=id hn
  refine h _ ⟨I.ok,I.os,I.bare,⟨fun b o e n hb hx => ?_,fun b o e n hb hx => ?_,I.base.free,fun b o e hx => ?_,I.base.tups,I.base.frzs,I.base.tbls⟩,⟨_,hn',fun j y v' e1 e2 e3 => ?_⟩,fun y c e => ?_,I.free,I.freeC,fun p hp => ?_,tracked ⟨oL,hoL,I.free⟩ hs,by simpa using I.len⟩ ⟨_,hs,.inl rfl⟩
  ·exact (hs.2 b (A5 (Ba (A1 e) I.ok.above))).trans (I.base.keep b o e n hb hx)
  ·obtain ⟨sl,e1⟩:=I.base.slot b o e n hb hx
   exact ⟨sl,(hs.2 b (A5 (Ba (A1 e) I.ok.above))).trans e1⟩
  ·obtain ⟨o',e1⟩:=I.base.there b o e hx
   exact ⟨o',(hs.2 b (A5 (Ba (A1 e) I.ok.above))).trans e1⟩
  ·by_cases hj:j=i
   ·subst hj
    rw [hi] at e1; cases e1
    rw [BX hiσ] at e2
    cases e2
    exact ⟨u,r,.inl ⟨hk,by simp⟩⟩
   ·rw [Cc (BN hj)] at e2
    obtain ⟨u',r',q⟩:=hl j y v' e1 e2 e3
    refine ⟨u',r',?_⟩
    rcases q with ⟨k,e⟩ | ⟨k,c,e,z⟩
    ·refine .inl ⟨k,?_⟩
     have:y ≠ x:=fun e=>hj (oy hN e1 (e ▸ hi))
     simp [this,e]
    ·exact .inr ⟨k,c,e,z.sameBut hs (cne y c e)⟩
  ·obtain ⟨w',z⟩:=I.cell y c e
   exact ⟨w',z.sameBut hs (cne y c e)⟩
  ·obtain ⟨e,n,ne,nf,d⟩:=I.pin p hp
   exact ⟨(hs.2 p.1 ne).trans e,n,ne,nf,d⟩
 ·have hfn:X.fn x=true:=by
   rcases hf with z | z
   ·exact z
   ·rw [z] at hk; cases hk
  obtain ⟨c,hc⟩:=I.ok.has x (.inl hk)
  obtain ⟨w',z⟩:=I.cell x c hc
  refine wpAny_storeName_cell I.ok.kind hk hc z (fun h' hc' hs => ?_)
  obtain ⟨oc,hoc,hocd⟩:=id z
  refine h { s with heap:=h' } ⟨I.ok,I.os,I.bare,⟨fun b o e n hb hx => ?_,fun b o e n hb hx => ?_,I.base.free,fun b o e hx => ?_,I.base.tups,I.base.frzs,I.base.tbls⟩,⟨m,hn.sameBut hs (BN (cne x c hc)),fun j y v' e1 e2 e3 => ?_⟩,fun y c' e => ?_,I.free,I.freeC,fun p hp => ?_,tracked ⟨oc,hoc,I.freeC x c hc⟩ hs,by simpa using I.len⟩ ⟨c,hs,.inr hc⟩
  ·exact (hs.2 b (A5 (Ba (A1 e) (I.ok.cab x c hfn hc)))).trans (I.base.keep b o e n hb hx)
  ·obtain ⟨sl,e1⟩:=I.base.slot b o e n hb hx
   exact ⟨sl,(hs.2 b (A5 (Ba (A1 e) (I.ok.cab x c hfn hc)))).trans e1⟩
  ·obtain ⟨o',e1⟩:=I.base.there b o e hx
   exact ⟨o',(hs.2 b (A5 (Ba (A1 e) (I.ok.cab x c hfn hc)))).trans e1⟩
  ·by_cases hj:j=i
   ·subst hj
    rw [hi] at e1; cases e1
    rw [BX hiσ] at e2
    cases e2
    exact ⟨u,r,.inr ⟨.inl hk,c,hc,hc'⟩⟩
   ·rw [Cc (BN hj)] at e2
    obtain ⟨u',r',q⟩:=hl j y v' e1 e2 e3
    refine ⟨u',r',?_⟩
    rcases q with q | ⟨k,c',e,z'⟩
    ·exact .inl q
    ·refine .inr ⟨k,c',e,z'.sameBut hs ?_⟩
     rintro rfl
     exact hj (oy hN e1 (I.ok.inj _ _ _ e hc ▸ hi))
  ·by_cases hcc:c'=c
   ·subst hcc; exact ⟨_,hc'⟩
   ·obtain ⟨w2,z2⟩:=I.cell y c' e
    exact ⟨w2,z2.sameBut hs hcc⟩
  ·obtain ⟨e,n,ne,nf,d⟩:=I.pin p hp
   refine ⟨(hs.2 p.1 ?_).trans e,n,ne,nf,d⟩
   intro q
   rw [q,hoc] at e
   have q':oc=p.2:=Bb e
   exact d w' (by rw [<- q']; exact hocd)
theorem oz {M:Model} {A:Around} {E:Value->Shared->Prop} {i:Nat} {x:Str} {v:V} {u:Value} {Q:Unit->Shared->Prop} (I:Inv X pins σ H s) (hN:X.N.Nodup) (hi:X.N[i]? = some x) (hx:Loc X.env.scope x) (r:RelV v u)
  (h:∀ s',Inv X pins (σ.set i (some v)) H s'->Q () s') (hf:X.fn x=true\/X.env.scope.names.lookup x=some .local:=by first | exact .inl rfl | exact .inr rfl | assumption):wpAny M A (storeName X.env x u) Q E s :=
 sR I hN hi hx r (fun s' I' _=>h s' I') hf
theorem Inv.zT {s':Shared} {ch:List Addr} (I:Inv X pins σ H s) (ho:s'.os=s.os) (u:Un (frs X.stack) ch H H' s.heap s'.heap) (hok:HOk X.prog X.w H' s'.heap) (hg:AllBare s'.gens)
  (hch:∀ b ∈ ch,(b ∈ X.ex\/X.s₀.heap.objs.size<=b)/\b ≠ X.env.locals/\(∀ x c,X.env.cells.lookup x=some c->c ≠ b)/\∀ p ∈ X.pn ++ pins,p.1 ≠ b):Inv X pins σ H' s':=by
 obtain ⟨h',g',d',t',o'⟩:=s'
 have e:o'=s.os:=ho
 subst e
 exact I.call (g':=g') (t':=t') (d':=d') u hok hg hch
end
abbrev XK:=Value->Option Addr->Hp->Prop
abbrev St:=List (Option V)
abbrev VK:=V->Hp->Prop
abbrev TE:=St->Hp->VK->Prop
abbrev TT:=St->Hp->(Bool->Hp->Prop)->Prop
abbrev TA:=St->Hp->(List V->Hp->Prop)->Prop
structure Ends where
 nx:St->Hp->Prop
 rt:VK
 bk:St->Hp->Prop:=fun _ _=>False
 ct:St->Hp->Prop:=fun _ _=>False
abbrev TS:=Ends->St->Hp->Prop
def EP (X:Cx) (pins:List (Addr × Obj)) (σ:St) (Q:VK) (u:Value) (s':Shared):Prop:=∃ v H',Inv X pins σ H' s'/\RelV v u/\Q v H'
def TP (X:Cx) (pins:List (Addr × Obj)) (σ:St) (Q:Bool->Hp->Prop) (b:Bool) (s':Shared):Prop:=∃ H',Inv X pins σ H' s'/\Q b H'
def AP (X:Cx) (pins:List (Addr × Obj)) (σ:St) (Q:List V->Hp->Prop) (us:List Value) (s':Shared):Prop:=∃ vs H',Inv X pins σ H' s'/\Vals vs us/\Q vs H'
def SP (X:Cx) (pins:List (Addr × Obj)) (D:Ends) (f:Flow) (s':Shared):Prop :=
 match f with
 | .next=>∃ σ' H',Inv X pins σ' H' s'/\D.nx σ' H'
 | .brk=>∃ σ' H',Inv X pins σ' H' s'/\D.bk σ' H'
 | .cont=>∃ σ' H',Inv X pins σ' H' s'/\D.ct σ' H'
 | .ret u=>∃ v σ' H',Inv X pins σ' H' s'/\RelV v u/\D.rt v H'
def PE (X:Cx) (e:Expr) (t:TE):Prop :=
 ∀ (pins:List (Addr × Obj)) (s:Shared) (σ:St) (H:Hp) (Q:VK),Inv X pins σ H s->t σ H Q->wpAny (model X.prog X.w) X.A (eval e X.env) (EP X pins σ Q) X.xe s
def PT (X:Cx) (e:Expr) (t:TT):Prop :=
 ∀ (pins:List (Addr × Obj)) (s:Shared) (σ:St) (H:Hp) (Q:Bool->Hp->Prop),Inv X pins σ H s->t σ H Q->wpAny (model X.prog X.w) X.A (isTrue e X.env (eval e X.env)) (TP X pins σ Q) X.xe s
def PW (X:Cx) (e:Expr) (t:TT):Prop :=
 ∀ (whole:Sem Value) (pins:List (Addr × Obj)) (s:Shared) (σ:St) (H:Hp) (Q:Bool->Hp->Prop),Inv X pins σ H s->t σ H Q->wpAny (model X.prog X.w) X.A (isTrue e X.env whole) (TP X pins σ Q) X.xe s
theorem PW.pt {X:Cx} {e:Expr} {t:TT} (h:PW X e t):PT X e t:=h _
def PA (X:Cx) (es:List Expr) (t:TA):Prop :=
 ∀ (pos:Pos) (pins:List (Addr × Obj)) (s:Shared) (σ:St) (H:Hp) (Q:List V->Hp->Prop),Inv X pins σ H s->t σ H Q->wpAny (model X.prog X.w) X.A (spliced (backTo pos (starEach es X.env))) (AP X pins σ Q) X.xe s
def PS (X:Cx) (st:Stmt) (t:TS):Prop :=
 ∀ (pins:List (Addr × Obj)) (s:Shared) (σ:St) (H:Hp) (D:Ends),Inv X pins σ H s->t D σ H->wpAny (model X.prog X.w) X.A (exec st X.env) (SP X pins D) X.xe s
def PSs (X:Cx) (st:List Stmt) (t:TS):Prop :=
 ∀ (pins:List (Addr × Obj)) (s:Shared) (σ:St) (H:Hp) (D:Ends),Inv X pins σ H s->t D σ H->wpAny (model X.prog X.w) X.A (execs st X.env) (SP X pins D) X.xe s
theorem thn {α : Type} {t:Sem α} {Q Q' : α -> Shared->Prop} {M:Model} {A:Around} {E:Value->Shared->Prop} {s:Shared} (h:wpAny M A t Q E s) (hQ:∀ a s,Q a s->Q' a s):wpAny M A t Q' E s:=wpAny_mono h hQ fun _ _ x=>x
open PySem PySem.Spec PyProof.Rows
section
variable {X:Cx}
theorem bin {a b:Expr} {ta tb:TE} (ha:PE X a ta) (hb:PE X b tb) {pins:List (Addr × Obj)} {s:Shared} {σ:St} {H:Hp} {R:V->V->Hp->Prop} (I:Inv X pins σ H s) (h:ta σ H fun x H1=>tb σ H1 fun y H2=>R x y H2)
  {α : Type} {Q : α -> Shared->Prop} {f:Value->Value->Sem α}
  (hf:∀ v u s2 x y H2,Inv X pins σ H2 s2->RelV x v->RelV y u->R x y H2->wpAny (model X.prog X.w) X.A (f v u) Q X.xe s2) :
  wpAny (model X.prog X.w) X.A (eval a X.env) (fun v s₁=>wpAny (model X.prog X.w) X.A (eval b X.env) (fun u s₂=>wpAny (model X.prog X.w) X.A (f v u) Q X.xe s₂) X.xe s₁) X.xe s:=by
 refine thn (ha pins s σ H _ I h) fun v s1 ⟨x,H1,I1,r1,q1⟩ => ?_
 refine thn (hb pins s1 σ H1 _ I1 q1) fun u s2 ⟨y,H2,I2,r2,q2⟩ => ?_
 exact hf v u s2 x y H2 I2 r1 r2 q2
def zU (i:Nat):TE:=fun σ H Q=>∃ v,σ[i]? = some (some v)/\Q v H
def tC (v:V):TE:=fun _ H Q=>Q v H
theorem yH {i:Nat} {x:Str} {pos:Pos} (hN:X.N[i]? = some x) (hv:Vis X.env.scope x) (hd:(x == ("__debug__" : Str))=false:=by decide) (hcd:(x == ("__classdict__" : Str))=false:=by decide):PE X (.Name x pos) (zU i):=by
 intro pins s σ H Q I h
 obtain ⟨v,e,h⟩:=h
 obtain ⟨m,hn,hl⟩:=I.loc
 obtain ⟨u,r,l⟩:=hl i x v hN e hv
 have fin:EP X pins σ Q u s:=⟨v,H,I,r,h⟩
 rcases l with ⟨hk,hm⟩ | ⟨hk,c,hc,hcell⟩
 ·exact wpAny_Name (wpAny_loadName_local I.ok.kind hk hn hm fin) hd
 ·rcases hk with hk | hk
  ·exact wpAny_Name (wpAny_loadName_cell I.ok.kind hk hc hcell fin) hd
  ·exact wpAny_Name (wpAny_loadName_free I.ok.kind hk hc hcell fin hcd) hd
theorem ai {i j pos}:PE X (.Constant (.int i) j pos) (tC (.int i)):=fun _ _ _ H _ I h=>wpAny_Constant_int ⟨.int i,H,I.tok _,⟨_,rfl⟩,h⟩
theorem jh {b j pos}:PE X (.Constant (.bool b) j pos) (tC (.bl b)):=fun _ _ _ H _ I h=>Constant_bool ⟨.bl b,H,I,rfl,h⟩
theorem iJ {j pos}:PE X (.Constant .none j pos) (tC .non):=fun _ _ _ H _ I h=>Constant_none ⟨.non,H,I,rfl,h⟩
theorem jN {x j pos}:PE X (.Constant (.str x) j pos) (tC (.str x)):=fun _ _ _ H _ I h=>Calls.Constant_str ⟨.str x,H,I.tok _,⟨_,rfl⟩,h⟩
def Gl (X:Cx) (x:Str):Prop:=X.env.kindOf x=some .globalImplicit
theorem wG {E:Value->Shared->Prop} {pins:List (Addr × Obj)} {s:Shared} {σ:St} {H:Hp} {x:Str} {u:Value} {pos:Pos} {Q:Value->Shared->Prop} (I:Inv X pins σ H s) (hg:Gl X x) (hm:X.mg x=some u) (h:Q u s)
  (hd:(x == ("__debug__" : Str))=false:=by decide):wpAny (model X.prog X.w) X.A (eval (.Name x pos) X.env) Q E s :=
 EE I.ok.kind hg (Calls.loadGlobal_global (by rw [I.ok.glob]; exact I.mod.glob.keeps I.bk) hm h) hd
theorem dk {E:Value->Shared->Prop} {pins:List (Addr × Obj)} {s:Shared} {σ:St} {H:Hp} {x:Str} {u:Value} {pos:Pos} {Q:Value->Shared->Prop} (I:Inv X pins σ H s) (hg:Gl X x) (hm:X.mg x=none) (hv:bootBuiltins x=some u) (h:Q u s)
  (hn:x ≠ "__name__" := by decide) (hd:(x == ("__debug__" : Str))=false:=by decide):wpAny (model X.prog X.w) X.A (eval (.Name x pos) X.env) Q E s:=by
 obtain ⟨mb,h1,h2⟩:=I.mod.blt
 exact EE I.ok.kind hg (Calls.loadGlobal_builtin (by rw [I.ok.glob]; exact I.mod.glob.keeps I.bk) hm (by rw [I.ok.blt]; exact h1.keeps I.bk) ((h2 x hn).trans hv) h) hd
theorem hZ {x:Str} {v:V} {u:Value} {pos:Pos} (hg:Gl X x) (hm:X.mg x=none) (hv:bootBuiltins x=some u) (r:RelV v u) (hn:x ≠ "__name__" := by decide) (hd:(x == ("__debug__" : Str))=false:=by decide):PE X (.Name x pos) (tC v) :=
 fun _ _ _ H _ I h=>dk I hg hm hv ⟨v,H,I,r,h⟩ hn hd
variable {a b:Expr} {ta tb:TE} {pos:Pos}
def PC (X:Cx) (op:CmpOp) (a b:Expr) (t:TE):Prop :=
 ∀ (pins:List (Addr × Obj)) (s:Shared) (σ:St) (H:Hp) (Q:VK),Inv X pins σ H s->t σ H Q →
  wpAny (model X.prog X.w) X.A (eval a X.env) (fun v s₁=>wpAny (model X.prog X.w) X.A (eval b X.env) (fun u s₂=>wpAny (model X.prog X.w) X.A (compareOp op v u) (EP X pins σ Q) X.xe s₂) X.xe s₁) X.xe s
theorem uB (b:Expr) {op:CmpOp} (h:op ≠ .In) (h2:op ≠ .NotIn):behindInMarks op b=false:=by
 have e1:(op == CmpOp.In)=false:=by cases op <;> first | rfl | exact absurd rfl h
 have e2:(op == CmpOp.NotIn)=false:=by cases op <;> first | rfl | exact absurd rfl h2
 cases b <;> simp [behindInMarks,e1,e2]
def tB (t:TE):TT:=fun σ H Q=>t σ H fun x H1=>∃ c,x = .bl c/\Q c H1
theorem iK {op:CmpOp} {t:TE} (h:PC X op a b t) (h1:behindInMarks op b=false:=by first | exact uB _ (by decide) (by decide) | rfl):PT X (.Compare a [op] [b] pos) (tB t):=by
 intro pins s σ H Q I hw
 refine wpAny_isTrue_Compare1 (thn (h pins s σ H _ I hw) fun v s1 h1=>thn h1 fun u s2 h2=>thn h2 fun c s3 ⟨x,H1,I1,r1,q1⟩ => ?_) h1
 obtain ⟨d,rfl,q⟩:=q1
 cases r1
 exact wpAny_truthy_bool ⟨H1,I1,q⟩
theorem fG {e:Expr} {t:TE} (h:PE X e t) (he:∀ whole,isTrue e X.env whole=(do let v ← whole; standAt e.pos; holding [v] (truthy v)):=by intro _; rfl):PT X e (tB t):=by
  intro pins s σ H Q I hw
  refine isTrue_plain (thn (h pins s σ H _ I hw) fun v s1 ⟨x,H1,I1,r1,q1⟩ => ?_) (he _)
  obtain ⟨d,rfl,q⟩:=q1
  cases r1
  exact wpAny_truthy_bool ⟨H1,I1,q⟩
variable {tA tB':TT} {rest:List Expr}
def tAnd (t u:TT):TT:=fun σ H Q=>t σ H fun c H1=>if c=true then u σ H1 Q else Q false H1
def tOr (t u:TT):TT:=fun σ H Q=>t σ H fun c H1=>if c=true then Q true H1 else u σ H1 Q
def tNot (t:TT):TT:=fun σ H Q=>t σ H fun c H1=>Q (!c) H1
theorem nz (ha:PT X a tA):PW X (.BoolOp .And [a] pos) tA:=by
 intro wh pins s σ H Q I h
 refine isTrue_and (thn (ha pins s σ H Q I h) fun c s1 e => ?_)
 cases c with
 | true=>exact isTrue_and_nil e
 | false=>exact e
theorem iL (ha:PT X a tA):PW X (.BoolOp .Or [a] pos) tA:=by
 intro wh pins s σ H Q I h
 refine isTrue_or (thn (ha pins s σ H Q I h) fun c s1 e => ?_)
 cases c with
 | false=>exact isTrue_or_nil e
 | true=>exact e
theorem qk (ha:PT X a tA) (hb:PW X (.BoolOp .And (b :: rest) pos) tB'):PW X (.BoolOp .And (a :: b :: rest) pos) (tAnd tA tB'):=by
 intro wh pins s σ H Q I h
 refine isTrue_and (thn (ha pins s σ H _ I h) fun c s1 ⟨H1,I1,q1⟩ => ?_)
 cases c with
 | true=>exact hb wh pins s1 σ H1 Q I1 q1
 | false=>exact ⟨H1,I1,q1⟩
theorem gL (ha:PT X a tA) (hb:PW X (.BoolOp .Or (b :: rest) pos) tB'):PW X (.BoolOp .Or (a :: b :: rest) pos) (tOr tA tB'):=by
 intro wh pins s σ H Q I h
 refine isTrue_or (thn (ha pins s σ H _ I h) fun c s1 ⟨H1,I1,q1⟩ => ?_)
 cases c with
 | true=>exact ⟨H1,I1,q1⟩
 | false=>exact hb wh pins s1 σ H1 Q I1 q1
theorem gP (ha:PT X a tA):PT X (.UnaryOp .Not a pos) (tNot tA):=by
 intro pins s σ H Q I h
 exact isTrue_not (ha pins s σ H (fun c H1=>Q (!c) H1) I h)
def zV (ta tb:TE):TE:=fun σ H Q=>ta σ H fun x H1=>∃ c,x = .bl c/\if c=true then tb σ H1 Q else Q (.bl false) H1
def zW (ta:TE):TE:=fun σ H Q=>ta σ H fun x H1=>∃ c,x = .bl c/\Q (.bl (!c)) H1
theorem yI {op} {t:TE} (h:PE X a t):PE X (.BoolOp op [a] pos) t:=fun pins s σ H Q I hw=>BoolOp_one (h pins s σ H Q I hw)
theorem yJ (ha:PE X a ta) (hb:PE X (.BoolOp .And (b :: rest) pos) tb):PE X (.BoolOp .And (a :: b :: rest) pos) (zV ta tb):=by
 intro pins s σ H Q I h
 refine BoolOp_and (thn (ha pins s σ H _ I h) fun v s1 ⟨x,H1,I1,r1,q1⟩ => ?_)
 obtain ⟨c,rfl,q1⟩:=q1
 cases r1
 refine wpAny_truthy_bool ?_
 cases c with
 | true=>exact hb pins s1 σ H1 Q I1 q1
 | false=>exact ⟨.bl false,H1,I1,rfl,q1⟩
theorem yK (ha:PE X a ta):PE X (.UnaryOp .Not a pos) (zW ta):=by
 intro pins s σ H Q I h
 refine UnaryOp_ (thn (ha pins s σ H _ I h) fun v s1 ⟨x,H1,I1,r1,q1⟩ => ?_)
 obtain ⟨c,rfl,q1⟩:=q1
 cases r1
 exact not_of (wpAny_truthy_bool ⟨.bl (!c),H1,I1,rfl,q1⟩)
def tIf (t:TT) (ta tb:TE):TE:=fun σ H Q=>t σ H fun c H1=>if c=true then ta σ H1 Q else tb σ H1 Q
theorem uC {c:Expr} (hc:PT X c tA) (ha:PE X a ta) (hb:PE X b tb):PE X (.IfExp c a b pos) (tIf tA ta tb):=by
 intro pins s σ H Q I h
 refine wpAny_IfExp (thn (hc pins s σ H _ I h) fun d s1 ⟨H1,I1,q1⟩ => ?_)
 cases d with
 | true=>exact ha pins s1 σ H1 Q I1 q1
 | false=>exact hb pins s1 σ H1 Q I1 q1
end
open PySem PySem.Spec PyProof.Rows
def SqL (K:PySem.W.Frag) (H:Hp) (a:Addr) (xs:List V):Prop :=
 Rd H a (.lst xs) ∨
  ∃ (o:Obj) (its:Array Value) (n:Nat),K.lookup a=some o/\o.cls = .type "list" /\ o.dict=none/\o.data = .seq its n/\its.size<=sizeLine/\Vals xs its.toList
def SqT (K:PySem.W.Frag) (H:Hp) (a:Addr) (xs:List V):Prop :=
 Rd H a (.tup xs) ∨
  ∃ (o:Obj) (its:Array Value) (n:Nat),K.lookup a=some o/\o.cls = .type "tuple" /\ o.data = .seq its n/\its.size<=sizeLine/\Vals xs its.toList
def absV:Value->Option V
 | .none=>some .non
 | .bool b=>some (.bl b)
 | .int i _=>some (.int i)
 | .str x _=>some (.str x)
 | .bytes b _=>some (.byt b)
 | .float b _=>some (.flt b)
 | .ref a=>some (.ref a)
 | .type n=>some (.ty n)
 | _=>none
theorem RelV.abs {x:V} {u:Value} (r:RelV x u):absV u=some x:=by
 cases x with
 | non=>cases r; rfl
 | bl _=>cases r; rfl
 | int _=>obtain ⟨t,rfl⟩:=r; rfl
 | str _=>obtain ⟨t,rfl⟩:=r; rfl
 | byt _=>obtain ⟨t,rfl⟩:=r; rfl
 | flt _=>obtain ⟨t,rfl⟩:=r; rfl
 | ref _=>cases r; rfl
 | ty _=>cases r; rfl
theorem RelV.inj {x y:V} {u:Value} (r:RelV x u) (q:RelV y u):x=y:=Bb (r.abs.symm.trans q.abs)
theorem Vals.inj:∀ {xs ys:List V} {us:List Value},Vals xs us->Vals ys us->xs=ys
 | _,_,_,.nil,.nil=>rfl
 | _,_,_,.cons r t,.cons r' t'=>by rw [r.inj r',Vals.inj t t']
section
variable {X:Cx} {pins:List (Addr × Obj)} {σ:St} {H:Hp} {s:Shared} {a:Addr} {xs ys:List V}
theorem SqL.of {K:PySem.W.Frag} (h:H a=some (.lst xs)):SqL K H a xs := .inl (.inl h)
theorem SqT.of {K:PySem.W.Frag} (h:H a=some (.tup xs)):SqT K H a xs := .inl (.inl h)
theorem Inv.list (I:Inv X pins σ H s) (h:SqL X.K H a xs):∃ its:List Value,Vals xs its/\PlainL s.heap a its.toArray/\xs.length<=sizeLine:=by
 rcases h with h | ⟨o,its,n,hk,hc,hd,hs,hz,r⟩
 ·obtain ⟨z,its,n,r,e⟩:=h.ok I.hok
  exact ⟨its,r,⟨_,n,e,rfl,rfl,rfl⟩,z⟩
 ·refine ⟨its.toList,r,⟨o,n,I.kIn a o hk,hc,hd,by simpa using hs⟩,?_⟩
  have e:=r.length
  simp only [AW] at e
  omega
theorem Inv.tuple (I:Inv X pins σ H s) (h:SqT X.K H a xs):∃ its:List Value,Vals xs its/\IsTup s.heap a its.toArray/\xs.length<=sizeLine:=by
 rcases h with h | ⟨o,its,n,hk,hc,hs,hz,r⟩
 ·obtain ⟨z,its,r,p⟩:=h.ok I.hok
  exact ⟨its,r,p.tup,z⟩
 ·refine ⟨its.toList,r,⟨o,I.kIn a o hk,hc,n,by simpa using hs⟩,?_⟩
  have e:=r.length
  simp only [AW] at e
  omega
theorem Inv.oA (I:Inv X pins σ H s) (h:SqL X.K H a xs) (h':SqL X.K H a ys):xs=ys:=by
 obtain ⟨its,r,⟨o,n,e,_,_,d⟩,_⟩:=I.list h
 obtain ⟨its',r',⟨o',n',e',_,_,d'⟩,_⟩:=I.list h'
 rw [e] at e'; cases e'
 rw [d] at d'
 injection d' with d1 _
 have:its=its':=by simpa using congrArg Array.toList d1
 subst this
 exact r.inj r'
theorem Inv.iM (I:Inv X pins σ H s) (h:SqT X.K H a xs) (h':SqT X.K H a ys):xs=ys:=by
 obtain ⟨its,r,⟨o,e,_,n,d⟩,_⟩:=I.tuple h
 obtain ⟨its',r',⟨o',e',_,n',d'⟩,_⟩:=I.tuple h'
 rw [e] at e'; cases e'
 rw [d] at d'
 injection d' with d1 _
 have:its=its':=by simpa using congrArg Array.toList d1
 subst this
 exact r.inj r'
end
abbrev Cx.lq (X:Cx) (E:Value->Shared->Prop):Cx:={ X with xe:=E }
abbrev Cx.nox (X:Cx):Cx:=X.lq fun _ _=>False
theorem Cx.Ok.lq {X:Cx} (ok:X.Ok) (E:Value->Shared->Prop):(X.lq E).Ok :=
 ⟨ok.mod,ok.kind,ok.glob,ok.blt,ok.above,ok.inj,ok.has,ok.cab,ok.hd,ok.frames,ok.stk,ok.exf,ok.bs,ok.bsz,ok.noex,ok.exfs,ok.funs,ok.frf⟩
theorem Cx.Ok.fH {X:Cx} {E:Value->Shared->Prop} (ok:(X.lq E).Ok):X.Ok :=
 ⟨ok.mod,ok.kind,ok.glob,ok.blt,ok.above,ok.inj,ok.has,ok.cab,ok.hd,ok.frames,ok.stk,ok.exf,ok.bs,ok.bsz,ok.noex,ok.exfs,ok.funs,ok.frf⟩
section
variable {X:Cx} {pins:List (Addr × Obj)} {σ:St} {H:Hp} {s:Shared} {E:Value->Shared->Prop}
theorem Inv.lq (I:Inv X pins σ H s) (E:Value->Shared->Prop):Inv (X.lq E) pins σ H s:=⟨I.ok.lq E,I.os,I.bare,I.base,I.loc,I.cell,I.free,I.freeC,I.pin,I.hok,I.len⟩
theorem Inv.fH (I:Inv (X.lq E) pins σ H s):Inv X pins σ H s:=⟨I.ok.fH,I.os,I.bare,I.base,I.loc,I.cell,I.free,I.freeC,I.pin,I.hok,I.len⟩
theorem SP.fH {D:Ends} {f:Flow} {s':Shared} (h:SP (X.lq E) pins D f s'):SP X pins D f s':=by
 cases f with
 | next=>obtain ⟨σ',H',I,q⟩:=h; exact ⟨σ',H',I.fH,q⟩
 | brk=>obtain ⟨σ',H',I,q⟩:=h; exact ⟨σ',H',I.fH,q⟩
 | cont=>obtain ⟨σ',H',I,q⟩:=h; exact ⟨σ',H',I.fH,q⟩
 | ret u=>obtain ⟨v,σ',H',I,r,q⟩:=h; exact ⟨v,σ',H',I.fH,r,q⟩
theorem PSs.nox {st:List Stmt} {t:TS} (h:PSs X.nox st t):PSs X st t:=fun pins s σ H D I hw =>
 wpAny_mono (h pins s σ H D (I.lq _) hw) (fun _ _ q=>q.fH) fun _ _ z=>False.elim z
end
section
variable {X:Cx} {st:Stmt} {rest:List Stmt} {t u:TS} {e:Expr} {te:TE} {pos:Pos}
def zX:TS:=fun D σ H=>D.nx σ H
def zY (t u:TS):TS:=fun D σ H=>t { D with nx:=u D } σ H
theorem aV:PSs X [] zX:=fun _ _ σ H _ I h=>wpAny_execs_nil ⟨σ,H,I,h⟩
theorem ah (h1:PS X st t) (h2:PSs X rest u):PSs X (st :: rest) (zY t u):=by
 intro pins s σ H D I h
 refine wpAny_execs_cons (thn (h1 pins s σ H { D with nx:=u D } I h) fun f s1 q => ?_)
 cases f with
 | next =>
  obtain ⟨σ',H',I',q⟩:=q
  exact h2 pins s1 σ' H' D I' q
 | ret v=>exact q
 | brk=>exact q
 | cont=>exact q
theorem au (h1:PS X st t):PSs X [st] t:=by
 intro pins s σ H D I h
 refine wpAny_execs_cons (thn (h1 pins s σ H D I h) fun f s1 q => ?_)
 cases f with
 | next=>exact wpAny_execs_nil q
 | ret v=>exact q
 | brk=>exact q
 | cont=>exact q
theorem Inv.quiet {pins:List (Addr × Obj)} {σ:St} {H:Hp} {s:Shared} (I:Inv X pins σ H s):interactive X.env=false:=by simp [interactive,I.ok.kind]
def zZ (te:TE):TS:=fun D σ H=>te σ H fun _ H1=>D.nx σ H1
theorem bR (he:PE X e te) (hs:swapsWith e none pos.line X.env=pure false:=by rfl):PS X (.Expr e pos) (zZ te):=by
 intro pins s σ H D I h
 exact wpAny_Expr_any (thn (he pins s σ H _ I h) fun v s1 ⟨x,H1,I1,r1,q1⟩=>⟨σ,H1,I1,q1⟩) I.quiet hs
def tRet (te:TE):TS:=fun D σ H=>te σ H D.rt
theorem aS (he:PE X e te):PS X (.Return (some e) pos) (tRet te):=by
 intro pins s σ H D I h
 exact wpAny_Return_some (thn (he pins s σ H _ I h) fun v s1 ⟨x,H1,I1,r1,q1⟩=>⟨x,σ,H1,I1,r1,q1⟩)
def tIfS (c:TT) (t u:TS):TS:=fun D σ H=>c σ H fun b H1=>if b=true then t D σ H1 else u D σ H1
theorem bL {c:Expr} {a b:List Stmt} {tc:TT} (hc:PT X c tc) (ha:PSs X a t) (hb:PSs X b u):PS X (.If c a b pos) (tIfS tc t u):=by
 intro pins s σ H D I h
 refine wpAny_If (thn (hc pins s σ H _ I h) fun d s1 ⟨H1,I1,q1⟩ => ?_)
 cases d with
 | true=>exact ha pins s1 σ H1 D I1 q1
 | false=>exact hb pins s1 σ H1 D I1 q1
def yL:TS:=fun _ _ _=>False
theorem eD {sts:List Stmt}:PSs X sts yL:=fun _ _ _ _ _ _ h=>h.elim
end
abbrev TG:=V->St->Hp->(St->Hp->Prop)->Prop
abbrev TGs:=List V->St->Hp->(St->Hp->Prop)->Prop
def PG (X:Cx) (target:Expr) (t:TG):Prop :=
 ∀ (pins:List (Addr × Obj)) (s:Shared) (σ:St) (H:Hp) (v:V) (u:Value) (Q:St->Hp->Prop),Inv X pins σ H s->RelV v u->t v σ H Q →
  wpAny (model X.prog X.w) X.A (assign target X.env u) (fun _ s'=>∃ σ' H',Inv X pins σ' H' s'/\Q σ' H') X.xe s
def PGs (X:Cx) (ts:List Expr) (t:TGs):Prop :=
 ∀ (pins:List (Addr × Obj)) (s:Shared) (σ:St) (H:Hp) (vs:List V) (us:List Value) (Q:St->Hp->Prop),Inv X pins σ H s->Vals vs us->t vs σ H Q →
  wpAny (model X.prog X.w) X.A (assignInOrder ((assignEach ts X.env).map (·.2)) us) (fun _ s'=>∃ σ' H',Inv X pins σ' H' s'/\Q σ' H') X.xe s
abbrev uD:=V->V->V->Hp->(Hp->Prop)->Prop
def yM (X:Cx) (t:uD):Prop :=
 ∀ (pins:List (Addr × Obj)) (s:Shared) (σ:St) (H:Hp) (o i v:V) (ov iv u:Value) (Q:Hp->Prop),Inv X pins σ H s->RelV o ov->RelV i iv->RelV v u->t o i v H Q →
  wpAny (model X.prog X.w) X.A (setItem ov iv u) (fun _ s'=>∃ H',Inv X pins σ H' s'/\Q H') X.xe s
abbrev TIp:=V->V->Hp->VK->Prop
def PIp (X:Cx) (op:Operator) (t:TIp):Prop :=
 ∀ (pins:List (Addr × Obj)) (s:Shared) (σ:St) (H:Hp) (x y:V) (v u:Value) (Q:VK),Inv X pins σ H s->RelV x v->RelV y u->t x y H Q →
  wpAny (model X.prog X.w) X.A (inplaceOp op v u) (EP X pins σ Q) X.xe s
section
variable {X:Cx} {pos:Pos}
def fI (i:Nat):TG:=fun v σ H Q=>Q (σ.set i (some v)) H
theorem ak {i:Nat} {x:Str} (hN:X.N.Nodup) (hi:X.N[i]? = some x) (hx:Loc X.env.scope x) (hf:X.fn x=true\/X.env.scope.names.lookup x=some .local:=by first | exact .inl rfl | exact .inr rfl | assumption):PG X (.Name x pos) (fI i):=by
 intro pins s σ H v u Q I r h
 exact wpAny_assign_Name (oz I hN hi hx r (fun s' I'=>⟨_,H,I',h⟩) hf)
def z3:TGs:=fun vs σ H Q=>vs=[]/\Q σ H
def uE (t:TG) (u:TGs):TGs:=fun vs σ H Q=>∃ v r,vs=v :: r/\t v σ H fun σ' H'=>u r σ' H' Q
theorem aT:PGs X [] z3:=by
 intro pins s σ H vs us Q I r h
 obtain ⟨e,h⟩:=h
 subst e
 cases r
 exact assignInOrder_nil ⟨σ,H,I,h⟩
theorem aA {e:Expr} {es:List Expr} {t:TG} {u:TGs} (h1:PG X e t) (h2:PGs X es u)
  (hs:(assignEach (e :: es) X.env).map (·.2)=assign e X.env :: (assignEach es X.env).map (·.2):=by rfl):PGs X (e :: es) (uE t u):=by
 intro pins s σ H vs us Q I r h
 obtain ⟨v,vr,e1,h⟩:=h
 subst e1
 cases r with
 | cons r rr =>
  rw [hs]
  refine assignInOrder_cons (thn (h1 pins s σ H _ _ _ I r h) fun _ s1 ⟨σ1,H1,I1,q1⟩ => ?_)
  exact h2 pins s1 σ1 H1 _ _ Q I1 rr q1
def z4 (K:PySem.W.Frag) (n:Nat) (t:TGs):TG:=fun v σ H Q=>∃ a xs,v = .ref a/\SqT K H a xs/\xs.length=n/\t xs σ H Q
theorem bo {es:List Expr} {k:Nat} {t:TGs} {n:Nat} (hc:X.calm=true) (h:PGs X es t)
  (hn:(assignEach es X.env).length=n:=by rfl) (hst:(assignEach es X.env).findIdx? (·.1)=none:=by rfl):PG X (.Tuple es k pos) (z4 X.K n t):=by
 intro pins s σ H v u Q I r hw
 obtain ⟨a,xs,e1,hq,hl,hw⟩:=hw
 subst e1
 cases r
 obtain ⟨its,rv,ht,hz⟩:=I.tuple hq
 refine assign_Tuple_tuple (I.ok.hd hc) ht (by simp [hn, <- hl,rv.length]) hst fun h' hx => ?_
 have I1:Inv X pins σ H { s with heap:=h' }:=I.kept (t':=s.toks) fun b o e=>hx b o (A5 (A1 e)) e
 exact h pins _ σ H xs _ Q I1 (by simpa using rv) hw
def gSub (to ti:TE) (t:uD):TG:=fun v σ H Q=>to σ H fun o H1=>ti σ H1 fun i H2=>t o i v H2 fun H3=>Q σ H3
theorem yN {o i:Expr} {to ti:TE} {t:uD} (ho:PE X o to) (hi:PE X i ti) (hs:yM X t)
    (ha:∀ v,assign (.Subscript o i pos) X.env v=(do
      let ov ← holding [v] (eval o X.env)
      let iv ← holding [v,ov] (eval i X.env)
      standAt pos
      holding [v,ov,iv] (setItem ov iv v)
      release [v,ov,iv] []):=by intro _; rfl):PG X (.Subscript o i pos) (gSub to ti t):=by
  intro pins s σ H v u Q I r h
  rw [ha]
  refine wpAny_bind (wpAny_holding (thn (ho pins s σ H _ I h) fun ov s1 ⟨x,H1,I1,r1,q1⟩ => ?_))
  refine wpAny_bind (wpAny_holding (thn (hi pins s1 σ H1 _ I1 q1) fun iv s2 ⟨y,H2,I2,r2,q2⟩ => ?_))
  refine wpAny_bind (wpAny_standAt (wpAny_bind (wpAny_holding (thn (hs pins s2 σ H2 x y v ov iv u _ I2 r1 r2 r q2) fun _ s3 ⟨H3,I3,q3⟩ => ?_))))
  exact wpAny_release ⟨σ,H3,I3,q3⟩
def yO (te:TE) (g:TG):TS:=fun D σ H=>te σ H fun x H1=>g x σ H1 D.nx
theorem bC {tg e:Expr} {te:TE} {g:TG} (he:PE X e te) (hg:PG X tg g) (hs:swapsWithSole [tg] e pos.line X.env=pure false:=by rfl) (hw:swappedStores [tg] e X.env=pure none:=by rfl)
  (h1:(assignEach [tg] X.env).map (·.2)=[assign tg X.env]:=by rfl):PS X (.Assign [tg] e pos) (yO te g):=by
 intro pins s σ H D I h
 refine wpAny_Assign_stores (thn (he pins s σ H _ I h) fun v s1 ⟨x,H1,I1,r1,q1⟩ => ?_) hs hw
 rw [h1]
 exact thn (hg pins s1 σ H1 x v _ I1 r1 q1) fun _ s2 q=>q
theorem aQ {i:Nat} {x:Str} {e:Expr} {te:TE} {pos':Pos} (hN:X.N.Nodup) (hi:X.N[i]? = some x) (hx:Loc X.env.scope x) (he:PE X e te) (hs:swapsWith e (some (.Name x pos')) pos.line X.env=pure false:=by rfl) (hf:X.fn x=true\/X.env.scope.names.lookup x=some .local:=by first | exact .inl rfl | exact .inr rfl | assumption) :
  PS X (.Assign [.Name x pos'] e pos) (yO te (fI i)):=by
 intro pins s σ H D I h
 refine wpAny_Assign_Name (thn (he pins s σ H _ I h) fun v s1 ⟨y,H1,I1,r1,q1⟩ => ?_) hs
 exact oz I1 hN hi hx r1 (fun s2 I2=>⟨_,H1,I2,q1⟩) hf
def z5 (to ti te:TE) (tget:V->V->Hp->VK->Prop) (tip:TIp) (tset:uD):TS:=fun D σ H=>to σ H fun o H1=>ti σ H1 fun i H2=>tget o i H2 fun x H3=>te σ H3 fun y H4=>tip x y H4 fun z H5=>tset o i z H5 fun H6=>D.nx σ H6
def z6 (X:Cx) (t:V->V->Hp->VK->Prop):Prop :=
 ∀ (pins:List (Addr × Obj)) (s:Shared) (σ:St) (H:Hp) (o i:V) (ov iv:Value) (Q:VK),Inv X pins σ H s->RelV o ov->RelV i iv->t o i H Q →
  wpAny (model X.prog X.w) X.A (getItem ov iv) (EP X pins σ Q) X.xe s
theorem wH {o i e:Expr} {to ti te:TE} {tget:V->V->Hp->VK->Prop} {tip:TIp} {tset:uD} {op:Operator} {tpos:Pos} (ho:PE X o to) (hi:PE X i ti) (hg:z6 X tget) (he:PE X e te) (hp:PIp X op tip) (hs:yM X tset)
    (ha:∀ ov iv new,augStore i ov iv new=(do holding [new,ov,iv] (setItem ov iv new); release [new,ov,iv] []; pure .next):=by intros; rfl):PS X (.AugAssign (.Subscript o i tpos) op e pos) (z5 to ti te tget tip tset):=by
  intro pins s σ H D I h
  refine wpAny_AugAssign_SubscriptAny (thn (ho pins s σ H _ I h) fun ov s1 ⟨x1,H1,I1,r1,q1⟩ => ?_) ha
  refine thn (hi pins s1 σ H1 _ I1 q1) fun iv s2 ⟨x2,H2,I2,r2,q2⟩ => ?_
  refine thn (hg pins s2 σ H2 x1 x2 ov iv _ I2 r1 r2 q2) fun old s3 ⟨x3,H3,I3,r3,q3⟩ => ?_
  refine thn (he pins s3 σ H3 _ I3 q3) fun v s4 ⟨x4,H4,I4,r4,q4⟩ => ?_
  refine thn (hp pins s4 σ H4 x3 x4 old v _ I4 r3 r4 q4) fun new s5 ⟨x5,H5,I5,r5,q5⟩ => ?_
  exact thn (hs pins s5 σ H5 x1 x2 x5 ov iv new _ I5 r1 r2 r5 q5) fun _ s6 ⟨H6,I6,q6⟩=>⟨σ,H6,I6,q6⟩
def ipI (f:Int->Int->Int):TIp:=fun x y H Q=>∃ i j,x = .int i/\y = .int j/\Q (.int (f i j)) H
theorem yP:PIp X .Sub (ipI fun i j=>i - j):=by
 intro pins s σ H x y v u Q I r1 r2 h
 obtain ⟨i,j,e1,e2,q⟩:=h
 subst e1; subst e2
 obtain ⟨t,rfl⟩:=r1
 obtain ⟨t',rfl⟩:=r2
 exact isub_int ⟨.int _,H,I.tok _,⟨_,rfl⟩,q⟩
end
section
variable {X:Cx} {pos:Pos}
def uF (c:TT) (tb:TS):TS:=fun D σ H=>∃ W:Nat->St->Hp->Prop,(∃ m,W m σ H)/\∀ m σ H,W m σ H →
 c σ H fun b H1=>if b=true then ∃ N:St->Hp->Prop,(∀ σ' H',N σ' H'->∃ m',m' < m/\W m' σ' H')/\tb { D with nx:=N,ct:=N,bk:=D.nx } σ H1 else D.nx σ H1
theorem jO {c:Expr} {body:List Stmt} {tc:TT} {tb:TS} (hp:PassesOwn (model X.prog X.w) X.A X.env X.xe) (hc:PT X c tc) (hb:PSs X body tb):PS X (.While c body [] pos) (uF tc tb):=by
 intro pins s σ H D I h
 obtain ⟨W,⟨m0,w0⟩,turn⟩:=h
 refine wpAny_While (codeAny_whileLoop (fun n s'=>∃ σ' H',Inv X pins σ' H' s'/\W n σ' H') ?_ m0 ⟨σ,H,I,w0⟩)
 rintro n s1 ⟨σ1,H1,I1,w1⟩
 refine wpAny_passesOwn hp (thn (hc pins s1 σ1 H1 _ I1 (turn n σ1 H1 w1)) fun b s2 ⟨H2,I2,q2⟩ => ?_)
 cases b with
 | true =>
  obtain ⟨N,hN,q2⟩:=q2
  rw [if_pos rfl]
  refine wpAny_passesOwn hp (thn (hb pins s2 σ1 H2 _ I2 q2) fun f s3 q3 => ?_)
  cases f with
  | next =>
   obtain ⟨σ3,H3,I3,n3⟩:=q3
   obtain ⟨m',hm,w3⟩:=hN σ3 H3 n3
   exact ⟨m',hm,σ3,H3,I3,w3⟩
  | cont =>
   obtain ⟨σ3,H3,I3,n3⟩:=q3
   obtain ⟨m',hm,w3⟩:=hN σ3 H3 n3
   exact ⟨m',hm,σ3,H3,I3,w3⟩
  | brk=>exact q3
  | ret v=>exact q3
 | false =>
  rw [if_neg A9]
  exact wpAny_execs_nil ⟨σ1,H2,I2,q2⟩
end
structure It where
 go:Nat->Hp->Prop
 yld:Nat->Hp->V->Hp->Prop
 stop:Nat->Hp->Prop
def jw (X:Cx) (pins:List (Addr × Obj)) (H:Hp) (b:Addr):Prop :=
 H b=none/\b ≠ X.env.locals/\b ∉ X.fs/\(b ∈ X.ex\/X.s₀.heap.objs.size<=b)/\(∀ x c,X.env.cells.lookup x=some c->c ≠ b)/\∀ p ∈ X.pn ++ pins,p.1 ≠ b
theorem Inv.uG {X:Cx} {pins:List (Addr × Obj)} {σ:St} {H H':Hp} {s:Shared} {b:Addr} (I:Inv X pins σ H s) (hb:s.heap.objs.size<=b) (hn:H' b=none):jw X pins H' b:=by
 refine ⟨hn,Ds (Ba I.lt hb),I.yG hb,.inr (BF I.sz hb),fun x c e z => ?_,fun p hp z => ?_⟩
 ·obtain ⟨v,q⟩:=I.cell x c e
  exact absurd (Ba q.lt (by rw [z]; exact hb)) (BB _)
 ·exact absurd (Ba (A1 (I.pin p hp).1) (by rw [z]; exact hb)) (BB _)
structure Turn (P:Program) (w:World) (K:PySem.W.Frag) (tg:Expr) (J:It) (fp:List Addr) (it:Addr) (tn:Nat->Heap->Prop):Prop where
 mem:it ∈ fp
 obj:∀ i h,tn i h->∀ b ∈ fp,∃ o,h.get? b=some o/\∀ v,o.data ≠ .cell v
 keep:∀ i h h',tn i h->(∀ b ∈ fp,∀ o,h.get? b=some o->h'.get? b=some o)->tn i h'
 item:∀ (X:Cx),X.prog=P->X.w=w->X.K=K->X.calm=true->∀ (i:Nat) (pins:List (Addr × Obj)) (s:Shared) (σ:St) (H:Hp) (E:Value->Shared->Prop),Inv X pins σ H s->(∀ b ∈ fp,jw X pins H b)->tn i s.heap->J.go i H →
  wpAny (model P w) X.A (pyNext (.ref it)) (fun r s1=>∃ u,r=some u ∧
   wpAny (model P w) X.A (letOwnedTupleGo tg (.ref it) u) (fun _ s2=>∃ x H',Inv X pins σ H' s2/\RelV x u/\J.yld i H x H'/\tn (i + 1) s2.heap/\∀ b ∈ fp,H' b=none) E s1) E s
 done:∀ (X:Cx),X.prog=P->X.w=w->X.K=K->X.calm=true->∀ (i:Nat) (pins:List (Addr × Obj)) (s:Shared) (σ:St) (H:Hp) (E:Value->Shared->Prop),Inv X pins σ H s->(∀ b ∈ fp,jw X pins H b)->tn i s.heap->J.stop i H →
  wpAny (model P w) X.A (pyNext (.ref it)) (fun r s1=>r=none/\Inv X pins σ H s1) E s
 self:∀ (A:Around) (i:Nat) (s:Shared) (Q:Value->Shared->Prop) (E:Value->Shared->Prop),tn i s.heap->Q (.ref it) s->wpAny (model P w) A (pyIter (.ref it)) Q E s
abbrev TI:=St->Hp->(It->Hp->Prop)->Prop
def PIE (X:Cx) (pins:List (Addr × Obj)) (σ:St) (tg:Expr) (R:It->Hp->Prop) (itv:Value) (s2:Shared):Prop :=
 ∃ (it:Addr) (fp:List Addr) (tn:Nat->Heap->Prop) (J:It) (H':Hp),itv = .ref it/\Inv X pins σ H' s2/\Turn X.prog X.w X.K tg J fp it tn/\tn 0 s2.heap/\(∀ b ∈ fp,jw X pins H' b)/\R J H'
def PI (X:Cx) (tg iter:Expr) (wi:TI):Prop :=
 ∀ (pins:List (Addr × Obj)) (s:Shared) (σ:St) (H:Hp) (R:It->Hp->Prop),Inv X pins σ H s->wi σ H R →
  wpAny (model X.prog X.w) X.A (eval iter X.env) (fun v s1=>wpAny (model X.prog X.w) X.A (pyIter v) (PIE X pins σ tg R) X.xe s1) X.xe s
theorem uH {M:Model} {A:Around} {E:Value->Shared->Prop} {s:Shared} {tg:Expr} {it:Addr} {u:Value} {o:Obj} {n:String} {vs:Array Value} {Q:Unit->Shared->Prop} (ho:s.heap.get? it=some o) (hc:o.cls = .type n) (hd:o.data = .fields vs)
    (hn:["enumerate", "zip", "dict_itemiterator", "dict_reverseitemiterator", "odict_iterator", "itertools.zip_longest", "itertools.pairwise"].contains n=false) (hQ:Q () s):wpAny M A (letOwnedTupleGo tg (.ref it) u) Q E s:=by
  unfold letOwnedTupleGo
  cases tg <;> first
    | exact wpAny_pure hQ
    | (cases u <;> first
        | exact wpAny_pure hQ
        | (refine wpAny_bind (wpAny_load ho ?_)
           rw [hc,hd]
           show wpAny M A (if (["enumerate", "zip", "dict_itemiterator", "dict_reverseitemiterator", "odict_iterator", "itertools.zip_longest", "itertools.pairwise"].contains n && vs[0]? == some (rawInt _))=true then _ else _) Q E s
           rw [if_neg (by intro h; rw [hn,EU] at h; cases h)]
           exact wpAny_pure hQ))
def Itl (K:PySem.W.Frag) (a:Addr):It :=
 ⟨fun i H=>∃ xs x,SqL K H a xs/\xs[i]? = some x,fun i H x H'=>H'=H/\∀ xs,SqL K H a xs->xs[i]? = some x,fun i H=>∃ xs,SqL K H a xs/\xs.length<=i⟩
def Itt (K:PySem.W.Frag) (a:Addr):It :=
 ⟨fun i H=>∃ xs x,SqT K H a xs/\xs[i]? = some x,fun i H x H'=>H'=H/\∀ xs,SqT K H a xs->xs[i]? = some x,fun i H=>∃ xs,SqT K H a xs/\xs.length<=i⟩
def Itr (lo:Int) (n:Nat):It:=⟨fun i _=>i < n,fun i H x H'=>H'=H/\x = .int (lo + i),fun i _=>n<=i⟩
theorem lO {P:Program} {w:World} {K:PySem.W.Frag} {tg:Expr} (a it:Addr):Turn P w K tg (Itl K a) [it] it (fun i h=>h.IsListIter it a i) where
 mem:=by simp
 obj:=fun i h st b hb=>by
  have e:b=it:=by simpa using hb
  subst e
  obtain ⟨o,e,c,d⟩:=st
  exact ⟨o,e,fun v z=>by rw [d] at z; cases z⟩
 keep:=fun i h h' st k=>st.at fun o e=>k it (by simp) o e
 item:=by
  intro X hP hw hK hc i pins s σ H E I hf st hg
  subst hP hw hK
  obtain ⟨xs,x,hq,hx⟩:=hg
  obtain ⟨its,rv,p,hz⟩:=I.list hq
  obtain ⟨u,hu,ru⟩:=rv.get hx
  obtain ⟨f0,f1,f2,f3,f4,f5⟩:=hf it (by simp)
  refine wpAny_pyNext_list_item st p.isList (x:=u) (by simpa using hu) fun h' st' sb => ?_
  have I1:Inv X pins σ H { s with heap:=h' }:=I.turned (t':=s.toks) (fun b o hb e=>(sb.2 b hb).trans e) f0 f1 f3 f4 f5
  obtain ⟨o,e,c,d⟩:=id st'
  exact ⟨u,rfl,uH (s:={ s with heap:=h' }) e c d (by decide) ⟨x,H,I1,ru,⟨rfl,fun ys hy=>by rw [I.oA hy hq]; exact hx⟩,st',fun b hb=>(hf b hb).1⟩⟩
 done:=by
  intro X hP hw hK hc i pins s σ H E I hf st hg
  subst hP hw hK
  obtain ⟨xs,hq,hx⟩:=hg
  obtain ⟨its,rv,p,hz⟩:=I.list hq
  obtain ⟨f0,f1,f2,f3,f4,f5⟩:=hf it (by simp)
  have hl:=rv.length
  exact wpAny_pyNext_list_end (I.ok.hd hc) st p.isList (by simp; omega) fun h' eb=>⟨rfl,I.turned (t':=s.toks) (fun b o hb e=>eb b o hb e) f0 f1 f3 f4 f5⟩
 self:=fun _ _ _ _ _ st h=>wpAny_pyIter_listiter st h
theorem jP {P:Program} {w:World} {K:PySem.W.Frag} {tg:Expr} (a it:Addr):Turn P w K tg (Itt K a) [it] it (fun i h=>h.IsTupleIter it a i) where
 mem:=by simp
 obj:=fun i h st b hb=>by
  have e:b=it:=by simpa using hb
  subst e
  obtain ⟨o,e,c,d⟩:=st
  exact ⟨o,e,fun v z=>by rw [d] at z; cases z⟩
 keep:=fun i h h' st k=>st.at fun o e=>k it (by simp) o e
 item:=by
  intro X hP hw hK hc i pins s σ H E I hf st hg
  subst hP hw hK
  obtain ⟨xs,x,hq,hx⟩:=hg
  obtain ⟨its,rv,p,hz⟩:=I.tuple hq
  obtain ⟨u,hu,ru⟩:=rv.get hx
  obtain ⟨f0,f1,f2,f3,f4,f5⟩:=hf it (by simp)
  refine wpAny_pyNext_tuple_item st (show s.heap.IsTuple a its.toArray from p) (x:=u) (by simpa using hu) fun h' st' sb => ?_
  have I1:Inv X pins σ H { s with heap:=h' }:=I.turned (t':=s.toks) (fun b o hb e=>(sb.2 b hb).trans e) f0 f1 f3 f4 f5
  obtain ⟨o,e,c,d⟩:=id st'
  exact ⟨u,rfl,uH (s:={ s with heap:=h' }) e c d (by decide) ⟨x,H,I1,ru,⟨rfl,fun ys hy=>by rw [I.iM hy hq]; exact hx⟩,st',fun b hb=>(hf b hb).1⟩⟩
 done:=by
  intro X hP hw hK hc i pins s σ H E I hf st hg
  subst hP hw hK
  obtain ⟨xs,hq,hx⟩:=hg
  obtain ⟨its,rv,p,hz⟩:=I.tuple hq
  obtain ⟨f0,f1,f2,f3,f4,f5⟩:=hf it (by simp)
  have hl:=rv.length
  exact wpAny_pyNext_tuple_end (I.ok.hd hc) st (show s.heap.IsTuple a its.toArray from p) (by simp; omega) fun h' eb=>⟨rfl,I.turned (t':=s.toks) (fun b o hb e=>eb b o hb e) f0 f1 f3 f4 f5⟩
 self:=fun _ _ _ _ _ st h=>wpAny_pyIter_tupleiter st h
theorem ql {P:Program} {w:World} {K:PySem.W.Frag} {tg:Expr} (it:Addr) (lo:Int) (n:Nat):Turn P w K tg (Itr lo n) [it] it (fun i h=>IsRangeIter h it (lo + (i:Nat) * 1) ((n:Int) - (i:Nat)) 1) where
 mem:=by simp
 obj:=fun i h st b hb=>by
  have e:b=it:=by simpa using hb
  subst e
  exact ⟨_,st,fun v z=>by
   have z':Data.fields _=Data.cell v:=z
   cases z'⟩
 keep:=fun i h h' st k=>k it (by simp) _ st
 item:=by
  intro X hP hw hK hc i pins s σ H E I hf st hg
  subst hP hw hK
  obtain ⟨f0,f1,f2,f3,f4,f5⟩:=hf it (by simp)
  have W:=Walks.range (prog:=X.prog) (w:=X.w) (I.ok.hd hc) it lo 1 n
  refine W.item i s _ _ hg st fun v h' tk hv st' kk => ?_
  obtain ⟨t,rfl⟩:=hv
  have I1:Inv X pins σ H { s with heap:=h',toks:=tk }:=I.turned (fun b o hb e=>kk b o (by simpa using hb) e) f0 f1 f3 f4 f5
  refine ⟨_,rfl,uH (s:={ s with heap:=h',toks:=tk }) (n := "range_iterator") st' rfl rfl (by decide) ⟨.int (lo + i),H,I1,⟨t,?_⟩,⟨rfl,rfl⟩,st',fun b hb=>(hf b hb).1⟩⟩
  rw [Int.mul_one]
 done:=by
  intro X hP hw hK hc i pins s σ H E I hf st hg
  subst hP hw hK
  obtain ⟨f0,f1,f2,f3,f4,f5⟩:=hf it (by simp)
  exact wpAny_pyNext_range_end (I.ok.hd hc) st (by have:n<=i:=hg; omega) fun h' eb=>⟨rfl,I.turned (t':=s.toks) (fun b o hb e=>eb b o hb e) f0 f1 f3 f4 f5⟩
 self:=fun _ _ _ _ _ st h=>wpAny_pyIter_rangeiter st h
open PySem PySem.Spec PyProof.Rows
section
variable {X:Cx} {tg:Expr}
def z7 (K:PySem.W.Frag) (tl:TE):TI:=fun σ H R=>tl σ H fun x H1=>∃ a,x = .ref a/\(∃ xs,SqL K H1 a xs)/\R (Itl K a) H1
def iTup (K:PySem.W.Frag) (tl:TE):TI:=fun σ H R=>tl σ H fun x H1=>∃ a,x = .ref a/\(∃ xs,SqT K H1 a xs)/\R (Itt K a) H1
theorem cj {l:Expr} {tl:TE} (hl:PE X l tl):PI X tg l (z7 X.K tl):=by
 intro pins s σ H R I h
 refine thn (hl pins s σ H _ I h) fun v s1 ⟨x,H1,I1,r1,q1⟩ => ?_
 obtain ⟨a,e,⟨xs,hq⟩,q⟩:=q1
 subst e
 cases r1
 obtain ⟨its,rv,p,hz⟩:=I1.list hq
 refine wpAny_pyIter_list p.isList ?_
 refine ⟨s1.heap.objs.size,[s1.heap.objs.size],_,_,H1,rfl,I1.kept (t':=s1.toks) fun b o e=>AN _ e,lO a _,⟨_,A0 _ rfl,rfl,rfl⟩,fun b hb => ?_,q⟩
 have e:b=s1.heap.objs.size:=by simpa using hb
 subst e
 exact I1.uG (AS _) (I1.hok.fresh (AS _))
theorem nA {l:Expr} {tl:TE} (hl:PE X l tl):PI X tg l (iTup X.K tl):=by
 intro pins s σ H R I h
 refine thn (hl pins s σ H _ I h) fun v s1 ⟨x,H1,I1,r1,q1⟩ => ?_
 obtain ⟨a,e,⟨xs,hq⟩,q⟩:=q1
 subst e
 cases r1
 obtain ⟨its,rv,p,hz⟩:=I1.tuple hq
 refine wpAny_pyIter_tuple (show s1.heap.IsTuple a its.toArray from p) ?_
 refine ⟨s1.heap.objs.size,[s1.heap.objs.size],_,_,H1,rfl,I1.kept (t':=s1.toks) fun b o e=>AN _ e,jP a _,⟨_,A0 _ rfl,rfl,rfl⟩,fun b hb => ?_,q⟩
 have e:b=s1.heap.objs.size:=by simpa using hb
 subst e
 exact I1.uG (AS _) (I1.hok.fresh (AS _))
theorem oB {pins:List (Addr × Obj)} {σ:St} {H:Hp} {s:Shared} {R:It->Hp->Prop} {E:Value->Shared->Prop} {lo hi:Int} {t u v:Tok} {tk:Nat} (I:Inv X pins σ H s) (h1 : -(2 ^ 62)<=lo) (h2:lo < 2 ^ 62) (h3 : -(2 ^ 62)<=hi) (h4:hi < 2 ^ 62)
  (q:R (Itr lo (hi - lo).toNat) H):wpAny (model X.prog X.w) X.A (pyIter (.ref s.heap.objs.size)) (PIE X pins σ tg R) E { s with heap:=s.heap.push { cls := .type "range",data := .fields #[.int lo t,.int hi u,.int 1 v] },toks:=tk }:=by
 refine wpAny_pyIter_range (IsRange.new ..) (small_one h1 h2 h3 h4) ?_
 have I1:Inv X pins σ H { s with heap:=s.heap.push { cls := .type "range",data := .fields #[.int lo t,.int hi u,.int 1 v] },toks:=tk }:=I.kept fun b o e=>AN _ e
 refine ⟨(s.heap.push { cls := .type "range",data := .fields #[.int lo t,.int hi u,.int 1 v] }).objs.size,[(s.heap.push { cls := .type "range",data := .fields #[.int lo t,.int hi u,.int 1 v] }).objs.size],_,_,H,rfl,
  I1.kept (t':=tk) fun b o e=>AN _ e,ql _ lo (hi - lo).toNat,?_,fun b hb => ?_,q⟩
 ·have e1:lo + ((0:Nat):Int) * 1=lo:=by simp
  have e2:(((hi - lo).toNat:Nat):Int) - ((0:Nat):Int)=Builtin.Range.rangeSize lo hi 1:=by rw [rangeSize_one]; split <;> omega
  show IsRangeIter _ _ (lo + ((0:Nat):Int) * 1) ((((hi - lo).toNat:Nat):Int) - ((0:Nat):Int)) 1
  rw [e1,e2]
  exact A0 _ rfl
 ·have e:b=(s.heap.push { cls := .type "range",data := .fields #[.int lo t,.int hi u,.int 1 v] }).objs.size:=by simpa using hb
  subst e
  exact I1.uG (AS _) (I1.hok.fresh (AS _))
def z8 (ta:TA):TI:=fun σ H R=>ta σ H fun vs H1=>∃ j:Int,vs=[.int j] /\ -(2 ^ 62)<=j/\j < 2 ^ 62/\R (Itr 0 j.toNat) H1
def z9 (ta:TA):TI:=fun σ H R=>ta σ H fun vs H1=>∃ i j:Int,vs=[.int i,.int j]/\(-(2 ^ 62)<=i/\i < 2 ^ 62 /\ -(2 ^ 62)<=j/\j < 2 ^ 62)/\R (Itr i (j - i).toNat) H1
theorem bI {a:Expr} {ta:TA} {p pos:Pos} (hg:Gl X "range") (hm:X.mg "range" = none) (ha:PA X [a] ta) (hs:starEach [a] X.env=[(false,eval a X.env)]:=by rfl):PI X tg (.Call (.Name "range" p) [a] [] pos) (z8 ta):=by
 intro pins s σ H R I h
 refine Call_ (dk I hg hm boot_range (BR (thn (ha pos pins s σ H _ I h) fun us s1 ⟨vs,H1,I1,r1,q1⟩ => ?_) hs rfl))
 obtain ⟨j,e,q1,q2,q⟩:=q1
 subst e
 cases r1 with
 | cons r rr =>
  cases rr
  obtain ⟨t,rfl⟩:=r
  exact call_range_1 (oB I1 (by omega) (by omega) q1 q2 (by simpa using q))
theorem gj {a b:Expr} {ta:TA} {p pos:Pos} (hg:Gl X "range") (hm:X.mg "range" = none) (ha:PA X [a,b] ta) (hs:starEach [a,b] X.env=[(false,eval a X.env),(false,eval b X.env)]:=by rfl) (hs2:starEach [b] X.env=[(false,eval b X.env)]:=by rfl) :
  PI X tg (.Call (.Name "range" p) [a,b] [] pos) (z9 ta):=by
 intro pins s σ H R I h
 refine Call_ (dk I hg hm boot_range (BR (thn (ha pos pins s σ H _ I h) fun us s1 ⟨vs,H1,I1,r1,q1⟩ => ?_) (by rw [hs,hs2]) (by rw [hs2]; rfl)))
 obtain ⟨i,j,e,⟨q1,q2,q3,q4⟩,q⟩:=q1
 subst e
 cases r1 with
 | cons r rr =>
  cases rr with
  | cons r' rr =>
   cases rr
   obtain ⟨t,rfl⟩:=r
   obtain ⟨t',rfl⟩:=r'
   exact call_range_2 (oB I1 q1 q2 q3 q4 q)
def tFor (wi:TI) (g:TG) (tb:TS):TS:=fun D σ H=>wi σ H fun J H1=>∃ W:Nat->Nat->St->Hp->Prop,(∃ m,W 0 m σ H1)/\∀ i m σ H,W i m σ H →
 (J.stop i H/\D.nx σ H)\/(J.go i H/\∃ N:St->Hp->Prop,(∀ σ' H',N σ' H'->∃ m',m' < m/\W (i + 1) m' σ' H')/\∀ x H',J.yld i H x H'->g x σ H' fun σ2 H2=>tb { D with nx:=N,ct:=N,bk:=D.nx } σ2 H2)
def gQ (fp:List Addr) (h:Heap):List (Addr × Obj):=fp.filterMap fun b=>(h.get? b).map fun o=>(b,o)
theorem dF {fp:List Addr} {h:Heap} {b:Addr} {o:Obj} (hb:b ∈ fp) (e:h.get? b=some o):(b,o) ∈ gQ fp h:=D1.mpr ⟨b,hb,by rw [e]; rfl⟩
theorem lP {fp:List Addr} {h:Heap} {p:Addr × Obj} (hp:p ∈ gQ fp h):p.1 ∈ fp/\h.get? p.1=some p.2:=by
 obtain ⟨b,hb,e⟩:=D1.mp hp
 cases q:h.get? b with
 | none=>rw [q] at e; cases e
 | some o =>
  rw [q] at e
  have e':(b,o)=p:=Bb e
  subst e'
  exact ⟨hb,q⟩
theorem Inv.pinned {pins:List (Addr × Obj)} {σ:St} {H:Hp} {s:Shared} {fp:List Addr} (I:Inv X pins σ H s) (hf:∀ b ∈ fp,jw X pins H b) (ho:∀ b ∈ fp,∃ o,s.heap.get? b=some o/\∀ v,o.data ≠ .cell v):Inv X (pins ++ gQ fp s.heap) σ H s :=
 I.hX fun p hp=>(A2.mp hp).elim (fun z=>I.pin p (Bi _ z)) fun z=>by
  obtain ⟨hb,e⟩:=lP z
  obtain ⟨f0,f1,f2,_⟩:=hf p.1 hb
  obtain ⟨o,e',d⟩:=ho p.1 hb
  rw [e] at e'; cases e'
  exact ⟨e,f0,f1,f2,d⟩
theorem Inv.eE {pins pl:List (Addr × Obj)} {σ:St} {H:Hp} {s:Shared} (I:Inv X (pins ++ pl) σ H s):Inv X pins σ H s:=I.hX fun p hp=>I.pin p (Bi _ (Bp _ hp))
theorem bV {iter:Expr} {body:List Stmt} {wi:TI} {g:TG} {tb:TS} {pos:Pos} (hp:PassesOwn (model X.prog X.w) X.A X.env X.xe) (hc:X.calm=true) (hi:PI X tg iter wi) (hg:PG X tg g) (hb:PSs X body tb)
  (hs:∀ x,foldedSetIterable iter X.env x=pure x:=by intro _; rfl):PS X (.For tg iter body [] pos) (tFor wi g tb):=by
 intro pins s σ H D I h
 refine wpAny_For (thn (hi pins s σ H _ I h) fun v s1 h1=>thn h1 fun itv s2 h2 => ?_) hs
 obtain ⟨it,fp,tn,J,H2,e,I2,T,st2,f2,W,⟨m0,w0⟩,turn⟩:=h2
 subst e
 have stat:∀ {H':Hp},(∀ b ∈ fp,H' b=none)->∀ b ∈ fp,jw X pins H' b:=fun hn b hb=>⟨hn b hb,(f2 b hb).2⟩
 refine codeAny_forLoop_any (fun n s'=>∃ i σ' H',Inv X pins σ' H' s'/\tn i s'.heap/\(∀ b ∈ fp,H' b=none)/\W i n σ' H') ?_ m0 ⟨0,σ,H2,I2,st2,fun b hb=>(f2 b hb).1,w0⟩
 rintro n s3 ⟨i,σ3,H3,I3,st3,fr3,w3⟩
 rcases turn i n σ3 H3 w3 with ⟨stop,qn⟩ | ⟨go,N,hN,step⟩
 ·refine wpAny_passesOwn hp (thn (T.done X rfl rfl rfl hc i pins s3 σ3 H3 X.xe I3 (stat fr3) st3 stop) fun r s4 ⟨hr,I4⟩ => ?_)
  subst hr
  exact wpAny_execs_nil ⟨σ3,H3,I4,qn⟩
 ·refine wpAny_passesOwn hp (thn (T.item X rfl rfl rfl hc i pins s3 σ3 H3 X.xe I3 (stat fr3) st3 go) fun r s4 ⟨u,hr,h4⟩ => ?_)
  subst hr
  refine wpAny_passesOwn hp (thn h4 fun _ s5 ⟨x,H5,I5,r5,y5,st5,fr5⟩ => ?_)
  have I5':=I5.pinned (stat fr5) (T.obj _ _ st5)
  refine wpAny_passesOwn hp (thn (hg _ s5 σ3 H5 x u _ I5' r5 (step x H5 y5)) fun _ s6 ⟨σ6,H6,I6,q6⟩ => ?_)
  refine wpAny_passesOwn hp (thn (hb _ s6 σ6 H6 _ I6 q6) fun f s7 q7 => ?_)
  have again:∀ {σ7:St} {H7:Hp},Inv X (pins ++ gQ fp s5.heap) σ7 H7 s7->N σ7 H7->∃ m,m < n/\∃ i σ' H',Inv X pins σ' H' s7/\tn i s7.heap/\(∀ b ∈ fp,H' b=none)/\W i m σ' H':=fun {σ7 H7} I7 n7=>by
   obtain ⟨m',hm,w7⟩:=hN σ7 H7 n7
   refine ⟨m',hm,i + 1,σ7,H7,I7.eE,T.keep _ _ _ st5 fun b hb o e=>(I7.pin (b,o) (Bi _ (Bi _ (dF hb e)))).1,fun b hb => ?_,w7⟩
   obtain ⟨o,e,d⟩:=T.obj _ _ st5 b hb
   exact (I7.pin (b,o) (Bi _ (Bi _ (dF hb e)))).2.1
  cases f with
  | next=>obtain ⟨σ7,H7,I7,n7⟩:=q7; exact again I7 n7
  | cont=>obtain ⟨σ7,H7,I7,n7⟩:=q7; exact again I7 n7
  | brk=>obtain ⟨σ7,H7,I7,q7⟩:=q7; exact ⟨σ7,H7,I7.eE,q7⟩
  | ret v=>obtain ⟨x7,σ7,H7,I7,r7,q7⟩:=q7; exact ⟨x7,σ7,H7,I7.eE,r7,q7⟩
end
theorem fJ {K:PySem.W.Frag} {a:Addr} {xs:List V} {g:TG} {tb:TS} {D:Ends} {σ:St} {H:Hp} (Pv:Nat->St->Hp->Prop) (h0:Pv 0 σ H) (hl:∀ i σ H,i<=xs.length->Pv i σ H->SqL K H a xs)
  (hs:∀ i x σ H,xs[i]? = some x->Pv i σ H->g x σ H fun σ2 H2=>tb { D with nx:=Pv (i + 1),ct:=Pv (i + 1),bk:=D.nx } σ2 H2) (hd:∀ σ H,Pv xs.length σ H->D.nx σ H) :
  ∃ W:Nat->Nat->St->Hp->Prop,(∃ m,W 0 m σ H)/\∀ i m σ H,W i m σ H →
   ((Itl K a).stop i H/\D.nx σ H)\/((Itl K a).go i H/\∃ N:St->Hp->Prop,(∀ σ' H',N σ' H'->∃ m',m' < m/\W (i + 1) m' σ' H')/\∀ x H',(Itl K a).yld i H x H'->g x σ H' fun σ2 H2=>tb { D with nx:=N,ct:=N,bk:=D.nx } σ2 H2):=by
 refine ⟨fun i m σ H=>m=xs.length - i/\i<=xs.length/\Pv i σ H,⟨xs.length,by simp,Br _,h0⟩,?_⟩
 rintro i m σ H ⟨rfl,hi,p⟩
 have q:=hl i σ H hi p
 by_cases hlt:i < xs.length
 ·refine .inr ⟨⟨xs,xs[i],q,by simp [hlt]⟩,Pv (i + 1),fun σ' H' p'=>⟨xs.length - (i + 1),by omega,rfl,hlt,p'⟩,fun x H' y => ?_⟩
  obtain ⟨e,y⟩:=y
  subst e
  exact hs i x σ _ (y xs q) p
 ·have e:i=xs.length:=by omega
  subst e
  exact .inl ⟨⟨xs,q,AS _⟩,hd σ H p⟩
theorem rA {K:PySem.W.Frag} {a:Addr} {xs:List V} {g:TG} {tb:TS} {D:Ends} {σ:St} {H:Hp} (Pv:Nat->St->Hp->Prop) (h0:Pv 0 σ H) (hl:∀ i σ H,i<=xs.length->Pv i σ H->SqT K H a xs)
  (hs:∀ i x σ H,xs[i]? = some x->Pv i σ H->g x σ H fun σ2 H2=>tb { D with nx:=Pv (i + 1),ct:=Pv (i + 1),bk:=D.nx } σ2 H2) (hd:∀ σ H,Pv xs.length σ H->D.nx σ H) :
  ∃ W:Nat->Nat->St->Hp->Prop,(∃ m,W 0 m σ H)/\∀ i m σ H,W i m σ H →
   ((Itt K a).stop i H/\D.nx σ H)\/((Itt K a).go i H/\∃ N:St->Hp->Prop,(∀ σ' H',N σ' H'->∃ m',m' < m/\W (i + 1) m' σ' H')/\∀ x H',(Itt K a).yld i H x H'->g x σ H' fun σ2 H2=>tb { D with nx:=N,ct:=N,bk:=D.nx } σ2 H2):=by
 refine ⟨fun i m σ H=>m=xs.length - i/\i<=xs.length/\Pv i σ H,⟨xs.length,by simp,Br _,h0⟩,?_⟩
 rintro i m σ H ⟨rfl,hi,p⟩
 have q:=hl i σ H hi p
 by_cases hlt:i < xs.length
 ·refine .inr ⟨⟨xs,xs[i],q,by simp [hlt]⟩,Pv (i + 1),fun σ' H' p'=>⟨xs.length - (i + 1),by omega,rfl,hlt,p'⟩,fun x H' y => ?_⟩
  obtain ⟨e,y⟩:=y
  subst e
  exact hs i x σ _ (y xs q) p
 ·have e:i=xs.length:=by omega
  subst e
  exact .inl ⟨⟨xs,q,AS _⟩,hd σ H p⟩
theorem bS {lo:Int} {n:Nat} {g:TG} {tb:TS} {D:Ends} {σ:St} {H:Hp} (Pv:Nat->St->Hp->Prop) (h0:Pv 0 σ H)
  (hs:∀ i σ H,i < n->Pv i σ H->g (.int (lo + i)) σ H fun σ2 H2=>tb { D with nx:=Pv (i + 1),ct:=Pv (i + 1),bk:=D.nx } σ2 H2) (hd:∀ σ H,Pv n σ H->D.nx σ H) :
  ∃ W:Nat->Nat->St->Hp->Prop,(∃ m,W 0 m σ H)/\∀ i m σ H,W i m σ H →
   ((Itr lo n).stop i H/\D.nx σ H)\/((Itr lo n).go i H/\∃ N:St->Hp->Prop,(∀ σ' H',N σ' H'->∃ m',m' < m/\W (i + 1) m' σ' H')/\∀ x H',(Itr lo n).yld i H x H'->g x σ H' fun σ2 H2=>tb { D with nx:=N,ct:=N,bk:=D.nx } σ2 H2):=by
 refine ⟨fun i m σ H=>m=n - i/\i<=n/\Pv i σ H,⟨n,by simp,Br _,h0⟩,?_⟩
 rintro i m σ H ⟨rfl,hi,p⟩
 by_cases hlt:i < n
 ·refine .inr ⟨hlt,Pv (i + 1),fun σ' H' p'=>⟨n - (i + 1),by omega,rfl,hlt,p'⟩,fun x H' y => ?_⟩
  obtain ⟨e,y⟩:=y
  subst e y
  exact hs i σ _ hlt p
 ·have e:i=n:=by omega
  subst e
  exact .inl ⟨AS _,hd σ H p⟩
theorem jQ {c:TT} {tb:TS} {D:Ends} {σ:St} {H:Hp} (Pv:St->Hp->Prop) (μ : St->Hp->Nat) (h0:Pv σ H)
  (hs:∀ σ H,Pv σ H->c σ H fun b H1=>if b=true then tb { D with nx:=fun σ' H'=>Pv σ' H' /\ μ σ' H' < μ σ H,ct:=fun σ' H'=>Pv σ' H' /\ μ σ' H' < μ σ H,bk:=D.nx } σ H1 else D.nx σ H1)
  (mono:∀ σ H Q Q',(∀ b H1,Q b H1->Q' b H1)->c σ H Q->c σ H Q'):uF c tb D σ H:=by
 refine ⟨fun m σ H=>m = μ σ H/\Pv σ H,⟨_,rfl,h0⟩,?_⟩
 rintro m σ H ⟨rfl,p⟩
 refine mono σ H _ _ (fun b H1 q => ?_) (hs σ H p)
 cases b with
 | true=>exact ⟨_,fun σ' H' ⟨p',l⟩=>⟨_,l,rfl,p'⟩,q⟩
 | false=>exact q
open PySem PySem.Spec PyProof.Rows
abbrev R2:=V->V->Hp->VK->Prop
def OpR (X:Cx) (f:Value->Value->Sem Value) (r:R2):Prop :=
 ∀ (pins:List (Addr × Obj)) (s:Shared) (σ:St) (H:Hp) (x y:V) (v u:Value) (Q:VK),Inv X pins σ H s->RelV x v->RelV y u->r x y H Q →
  wpAny (model X.prog X.w) X.A (f v u) (EP X pins σ Q) X.xe s
def UnR (X:Cx) (f:Value->Sem Value) (r:V->Hp->VK->Prop):Prop :=
 ∀ (pins:List (Addr × Obj)) (s:Shared) (σ:St) (H:Hp) (x:V) (v:Value) (Q:VK),Inv X pins σ H s->RelV x v->r x H Q →
  wpAny (model X.prog X.w) X.A (f v) (EP X pins σ Q) X.xe s
def bJ (X:Cx) (f:Value) (r:List V->Hp->VK->Prop):Prop :=
 ∀ (pins:List (Addr × Obj)) (s:Shared) (σ:St) (H:Hp) (xs:List V) (us:List Value) (Q:VK),Inv X pins σ H s->Vals xs us->r xs H Q →
  wpAny (model X.prog X.w) X.A (call f us) (EP X pins σ Q) X.xe s
def TruR (X:Cx) (r:V->Hp->(Bool->Hp->Prop)->Prop):Prop :=
 ∀ (pins:List (Addr × Obj)) (s:Shared) (σ:St) (H:Hp) (x:V) (v:Value) (Q:Bool->Hp->Prop),Inv X pins σ H s->RelV x v->r x H Q →
  wpAny (model X.prog X.w) X.A (truthy v) (TP X pins σ Q) X.xe s
def tOp (r:R2) (ta tb:TE):TE:=fun σ H Q=>ta σ H fun x H1=>tb σ H1 fun y H2=>r x y H2 Q
def tUn (r:V->Hp->VK->Prop) (ta:TE):TE:=fun σ H Q=>ta σ H fun x H1=>r x H1 Q
def rI (C:Int->Int->Prop) (g:Int->Int->V):R2:=fun x y H Q=>∃ i j,x = .int i/\y = .int j/\C i j/\Q (g i j) H
def rI0 (g:Int->Int->V):R2:=fun x y H Q=>∃ i j,x = .int i/\y = .int j/\Q (g i j) H
def rU (g:Int->V):V->Hp->VK->Prop:=fun x H Q=>∃ i,x = .int i/\Q (g i) H
section
variable {X:Cx} {a b c:Expr} {ta tb tc:TE} {pos:Pos}
theorem yQ (ha:PE X a ta) (hb:PE X b tb) {pins:List (Addr × Obj)} {s:Shared} {σ:St} {H:Hp} {R:V->V->Hp->Prop} (I:Inv X pins σ H s)
  (h:ta σ H fun x H1=>tb σ H1 fun y H2=>R x y H2) {Q:Value->Shared->Prop} {f:Value->Value->Sem Value}
  (hf:∀ v u s2 x y H2,Inv X pins σ H2 s2->RelV x v->RelV y u->R x y H2->wpAny (model X.prog X.w) X.A (f v u) Q X.xe s2) :
  wpAny (model X.prog X.w) X.A (eval a X.env) (fun v s₁=>wpAny (model X.prog X.w) X.A (eval b X.env) (fun u s₂=>wpAny (model X.prog X.w) X.A (f v u) Q X.xe s₂) X.xe s₁) X.xe s:=by
 refine thn (ha pins s σ H _ I h) fun v s1 ⟨x,H1,I1,r1,q1⟩ => ?_
 refine thn (hb pins s1 σ H1 _ I1 q1) fun u s2 ⟨y,H2,I2,r2,q2⟩ => ?_
 exact hf v u s2 x y H2 I2 r1 r2 q2
theorem aL {op:Operator} {r:R2} (ho:OpR X (binaryOp op) r) (ha:PE X a ta) (hb:PE X b tb):PE X (.BinOp a op b pos) (tOp r ta tb):=by
 intro pins s σ H Q I h
 exact wpAny_BinOp (yQ ha hb I h fun v u s2 x y H2 I2 rx ry q=>ho pins s2 σ H2 x y v u Q I2 rx ry q)
theorem Aa {op:UnaryOp} {r:V->Hp->VK->Prop} (ho:UnR X (unaryOp op) r) (ha:PE X a ta):PE X (.UnaryOp op a pos) (tUn r ta):=by
 intro pins s σ H Q I h
 exact UnaryOp_ (thn (ha pins s σ H _ I h) fun v s1 ⟨x,H1,I1,r1,q1⟩=>ho pins s1 σ H1 x v Q I1 r1 q1)
theorem opI {f:Value->Value->Sem Value} {C:Int->Int->Prop} {g:Int->Int->Int}
  (rule:∀ (i j:Int) (t u:Tok) (s:Shared) (Q:Value->Shared->Prop) (E:Value->Shared->Prop),C i j->Q (.int (g i j) s.toks) { s with toks:=s.toks + 1 }->wpAny (model X.prog X.w) X.A (f (.int i t) (.int j u)) Q E s) :
  OpR X f (rI C fun i j => .int (g i j)):=by
 intro pins s σ H x y v u Q I rx ry h
 obtain ⟨i,j,rfl,rfl,hc,q⟩:=h
 obtain ⟨t,rfl⟩:=rx
 obtain ⟨t',rfl⟩:=ry
 exact rule i j t t' s _ _ hc ⟨.int (g i j),H,I.tok _,⟨_,rfl⟩,q⟩
theorem Ab {f:Value->Value->Sem Value} {g:Int->Int->Int}
  (rule:∀ (i j:Int) (t u:Tok) (s:Shared) (Q:Value->Shared->Prop) (E:Value->Shared->Prop),Q (.int (g i j) s.toks) { s with toks:=s.toks + 1 }->wpAny (model X.prog X.w) X.A (f (.int i t) (.int j u)) Q E s) :
  OpR X f (rI0 fun i j => .int (g i j)):=by
 intro pins s σ H x y v u Q I rx ry h
 obtain ⟨i,j,rfl,rfl,q⟩:=h
 obtain ⟨t,rfl⟩:=rx
 obtain ⟨t',rfl⟩:=ry
 exact rule i j t t' s _ _ ⟨.int (g i j),H,I.tok _,⟨_,rfl⟩,q⟩
theorem wI {f:Value->Value->Sem Value} {g:Int->Int->Bool}
  (rule:∀ (i j:Int) (t u:Tok) (s:Shared) (Q:Value->Shared->Prop) (E:Value->Shared->Prop),Q (.bool (g i j)) s->wpAny (model X.prog X.w) X.A (f (.int i t) (.int j u)) Q E s) :
  OpR X f (rI0 fun i j => .bl (g i j)):=by
 intro pins s σ H x y v u Q I rx ry h
 obtain ⟨i,j,rfl,rfl,q⟩:=h
 obtain ⟨t,rfl⟩:=rx
 obtain ⟨t',rfl⟩:=ry
 exact rule i j t t' s _ _ ⟨.bl (g i j),H,I,rfl,q⟩
def CDiv (i j:Int):Prop:=0 < j/\j < 1073741824
def CPow (i j:Int):Prop:=0<=j/\j<=1000000/\i.natAbs < 2 ^ 64
def yR (i j:Int):Prop:=(-(2 ^ 64) < i/\i < 2 ^ 64)\/(-(2 ^ 64) < j/\j < 2 ^ 64)
theorem yR.ok {i j:Int} (h:yR i j):IntMulOk i j:=by
 rcases h with ⟨h1,h2⟩ | ⟨h1,h2⟩
 ·exact .of_left (intBits_le_64 h1 h2)
 ·exact .of_right (intBits_le_64 h1 h2)
theorem cA:OpR X (binaryOp .Add) (rI0 fun i j => .int (i + j)):=Ab fun _ _ _ _ _ _ _ q=>add_int q
theorem dr:OpR X (binaryOp .Sub) (rI0 fun i j => .int (i - j)):=Ab fun _ _ _ _ _ _ _ q=>sub_int q
theorem fe:OpR X (binaryOp .Mult) (rI yR fun i j => .int (i * j)):=opI fun _ _ _ _ _ _ _ hc q=>mul_int q hc.ok
theorem rB:OpR X (binaryOp .FloorDiv) (rI CDiv fun i j => .int (i / j)):=opI fun i j _ _ _ _ _ hc q=>by
 have h1:(0:Int) < j:=hc.1
 have h2:j < 1073741824:=hc.2
 exact floordiv_int (by omega) (by rw [EF i (by omega)]; exact q) (.inl (PyProof.noPylong_small (by omega)))
theorem ff:OpR X (binaryOp .Mod) (rI (fun _ j=>0 < j) fun i j => .int (i % j)):=opI fun i j _ _ _ _ _ hc q=>by
 have h1:(0:Int) < j:=hc
 exact mod_int' (by omega) (by rw [EG i (by omega)]; exact q)
theorem uI:OpR X (binaryOp .Pow) (rI CPow fun i j => .int (i ^ j.toNat)):=opI fun _ _ _ _ _ _ _ hc q=>pow_int_small hc.1 hc.2.1 hc.2.2 q
theorem unI {f:Value->Sem Value} {g:Int->Int}
  (rule:∀ (i:Int) (t:Tok) (s:Shared) (Q:Value->Shared->Prop) (E:Value->Shared->Prop),Q (.int (g i) s.toks) { s with toks:=s.toks + 1 }->wpAny (model X.prog X.w) X.A (f (.int i t)) Q E s) :
  UnR X f (rU fun i => .int (g i)):=by
 intro pins s σ H x v Q I rx h
 obtain ⟨i,rfl,q⟩:=h
 obtain ⟨t,rfl⟩:=rx
 exact rule i t s _ _ ⟨.int (g i),H,I.tok _,⟨_,rfl⟩,q⟩
theorem yS:UnR X (unaryOp .USub) (rU fun i => .int (-i)):=unI fun _ _ _ _ _ q=>neg_int q
end
def Ac:V->V->Bool
 | .non,.non=>true | .non,.int _=>true | .int _,.non=>true | .non,.bl _=>true | .bl _,.non=>true | .non,.str _=>true | .str _,.non=>true
 | .int _,.int _=>true | .bl _,.bl _=>true | .str _,.str _=>true | .byt _,.byt _=>true
 | .int _,.str _=>true | .str _,.int _=>true | .bl _,.str _=>true | .str _,.bl _=>true
 | _,_=>false
def rEq:R2:=fun x y H Q=>Ac x y=true/\Q (.bl (decide (x=y))) H
def rNe:R2:=fun x y H Q=>Ac x y=true/\Q (.bl (!decide (x=y))) H
theorem rC {i j:Int}:decide (V.int i=V.int j)=(i == j):=by
 rw [CM]
 simp
theorem uJ {i j:Bool}:decide (V.bl i=V.bl j)=(i == j):=by
 rw [CM]
 simp
theorem rD {i j:Str}:decide (V.str i=V.str j)=(i == j):=by
 rw [CM]
 simp
theorem rE {i j:Array UInt8}:decide (V.byt i=V.byt j)=(i.toList == j.toList):=by
 rw [CM]
 cases i
 cases j
 simp
section
variable {X:Cx} {a b c:Expr} {ta tb tc:TE} {pos:Pos}
theorem aY {pins:List (Addr × Obj)} {σ:St} {H:Hp} {s:Shared} {Q:VK} {k k':Bool} (I:Inv X pins σ H s) (q:Q (.bl k) H) (e:k=k'):EP X pins σ Q (.bool k') s:=by
 subst e
 exact ⟨.bl k,H,I,rfl,q⟩
theorem dG:OpR X (compareOp .Eq) rEq:=by
 intro pins s σ H x y v u Q I rx ry h
 obtain ⟨hs,q⟩:=h
 cases x with
 | non =>
  cases rx
  cases y with
  | non=>cases ry; exact PySem.EqNone.eq_none_none (aY I q (by simp))
  | bl j=>cases ry; exact PySem.EqNone.eq_none_bool (aY I q (by simp))
  | int j=>obtain ⟨t',rfl⟩:=ry; exact PySem.EqNone.eq_none_int (aY I q (by simp))
  | str j=>obtain ⟨t',rfl⟩:=ry; exact PySem.EqNone.eq_none_str (aY I q (by simp))
  | _=>exact absurd (show false=true from hs) A9
 | bl i =>
  cases rx
  cases y with
  | non=>cases ry; exact PySem.EqNone.eq_bool_none (aY I q (by simp))
  | bl j=>cases ry; exact eq_bool (aY I q uJ)
  | str j=>obtain ⟨t',rfl⟩:=ry; exact GX (aY I q (by simp))
  | _=>exact absurd (show false=true from hs) A9
 | int i =>
  obtain ⟨t,rfl⟩:=rx
  cases y with
  | non=>cases ry; exact PySem.EqNone.eq_int_none (aY I q (by simp))
  | int j=>obtain ⟨t',rfl⟩:=ry; exact eq_int (aY I q rC)
  | str j=>obtain ⟨t',rfl⟩:=ry; exact G5 (aY I q (by simp))
  | _=>exact absurd (show false=true from hs) A9
 | str i =>
  obtain ⟨t,rfl⟩:=rx
  cases y with
  | non=>cases ry; exact PySem.EqNone.eq_str_none (aY I q (by simp))
  | bl j=>cases ry; exact GY (aY I q (by simp))
  | int j=>obtain ⟨t',rfl⟩:=ry; exact G6 (aY I q (by simp))
  | str j=>obtain ⟨t',rfl⟩:=ry; exact eq_str (aY I q rD)
  | _=>exact absurd (show false=true from hs) A9
 | byt i =>
  obtain ⟨t,rfl⟩:=rx
  cases y with
  | byt j=>obtain ⟨t',rfl⟩:=ry; exact PySem.W.eq_bytes (aY I q rE)
  | _=>exact absurd (show false=true from hs) A9
 | _=>cases y <;> exact absurd (show false=true from hs) A9
theorem jR:OpR X (compareOp .NotEq) rNe:=by
 intro pins s σ H x y v u Q I rx ry h
 obtain ⟨hs,q⟩:=h
 cases x with
 | non =>
  cases rx
  cases y with
  | non=>cases ry; exact PySem.EqNone.ne_none_none (aY I q (by simp))
  | bl j=>cases ry; exact PySem.EqNone.ne_none_bool (aY I q (by simp))
  | int j=>obtain ⟨t',rfl⟩:=ry; exact PySem.EqNone.ne_none_int (aY I q (by simp))
  | str j=>obtain ⟨t',rfl⟩:=ry; exact PySem.EqNone.ne_none_str (aY I q (by simp))
  | _=>exact absurd (show false=true from hs) A9
 | bl i =>
  cases rx
  cases y with
  | non=>cases ry; exact PySem.EqNone.ne_bool_none (aY I q (by simp))
  | bl j=>cases ry; exact ne_bool (aY I q (congrArg not uJ))
  | str j=>obtain ⟨t',rfl⟩:=ry; exact GZ (aY I q (by simp))
  | _=>exact absurd (show false=true from hs) A9
 | int i =>
  obtain ⟨t,rfl⟩:=rx
  cases y with
  | non=>cases ry; exact PySem.EqNone.ne_int_none (aY I q (by simp))
  | int j=>obtain ⟨t',rfl⟩:=ry; exact ne_int (aY I q (congrArg not rC))
  | str j=>obtain ⟨t',rfl⟩:=ry; exact G7 (aY I q (by simp))
  | _=>exact absurd (show false=true from hs) A9
 | str i =>
  obtain ⟨t,rfl⟩:=rx
  cases y with
  | non=>cases ry; exact PySem.EqNone.ne_str_none (aY I q (by simp))
  | bl j=>cases ry; exact G0 (aY I q (by simp))
  | int j=>obtain ⟨t',rfl⟩:=ry; exact G9 (aY I q (by simp))
  | str j=>obtain ⟨t',rfl⟩:=ry; exact ne_str (aY I q (congrArg not rD))
  | _=>exact absurd (show false=true from hs) A9
 | byt i =>
  obtain ⟨t,rfl⟩:=rx
  cases y with
  | byt j=>obtain ⟨t',rfl⟩:=ry; exact PySem.W.ne_bytes (aY I q (congrArg not rE))
  | _=>exact absurd (show false=true from hs) A9
 | _=>cases y <;> exact absurd (show false=true from hs) A9
theorem oD:OpR X (compareOp .Lt) (rI0 fun i j => .bl (decide (i < j))):=wI fun _ _ _ _ _ _ _ q=>lt_int q
theorem yf:OpR X (compareOp .LtE) (rI0 fun i j => .bl (decide (i<=j))):=wI fun _ _ _ _ _ _ _ q=>le_int q
theorem Ad:OpR X (compareOp .Gt) (rI0 fun i j => .bl (decide (j < i))):=wI fun _ _ _ _ _ _ _ q=>gt_int q
theorem uK:OpR X (compareOp .GtE) (rI0 fun i j => .bl (decide (j<=i))):=wI fun _ _ _ _ _ _ _ q=>ge_int q
theorem yT:OpR X (compareOp .Is) (fun x y H Q=>y = .non/\Q (.bl (decide (x = .non))) H):=by
 intro pins s σ H x y v u Q I rx ry h
 obtain ⟨rfl,q⟩:=h
 cases ry
 refine is_none_gen (aY I q ?_)
 cases x <;> first
  | (cases rx; rfl)
  | (obtain ⟨t,rfl⟩:=rx; rfl)
theorem rF:OpR X (compareOp .IsNot) (fun x y H Q=>y = .non/\Q (.bl (!decide (x = .non))) H):=by
 intro pins s σ H x y v u Q I rx ry h
 obtain ⟨rfl,q⟩:=h
 cases ry
 refine isnot_none_gen (aY I q ?_)
 cases x <;> first
  | (cases rx; rfl)
  | (obtain ⟨t,rfl⟩:=rx; rfl)
theorem aR (b:Expr) {op:CmpOp} (h:op ≠ .In:=by decide) (h2:op ≠ .NotIn:=by decide):behindInMarks op b=false:=by
 have e1:(op == CmpOp.In)=false:=by cases op <;> first | rfl | exact absurd rfl h
 have e2:(op == CmpOp.NotIn)=false:=by cases op <;> first | rfl | exact absurd rfl h2
 cases b <;> simp [behindInMarks,e1,e2]
theorem h7 {op:CmpOp} {r:R2} (ho:OpR X (compareOp op) r) (ha:PE X a ta) (hb:PE X b tb) (hm:behindInMarks op b=false):PE X (.Compare a [op] [b] pos) (tOp r ta tb):=by
 intro pins s σ H Q I h
 exact wpAny_Compare1 (yQ ha hb I h fun v u s2 x y H2 I2 rx ry q=>ho pins s2 σ H2 x y v u Q I2 rx ry q) hm
def Ae (t:TE):TT:=fun σ H Q=>t σ H fun x H'=>∃ k,x = .bl k/\Q k H'
theorem aO {op:CmpOp} {r:R2} (ho:OpR X (compareOp op) r) (ha:PE X a ta) (hb:PE X b tb) (hm:behindInMarks op b=false):PT X (.Compare a [op] [b] pos) (Ae (tOp r ta tb)):=by
 intro pins s σ H Q I h
 refine wpAny_isTrue_Compare1 (thn (ha pins s σ H _ I h) fun v s1 ⟨x,H1,I1,r1,q1⟩=>thn (hb pins s1 σ H1 _ I1 q1) fun u s2 ⟨y,H2,I2,r2,q2⟩ =>
  thn (ho pins s2 σ H2 x y v u _ I2 r1 r2 q2) fun c s3 ⟨z,H3,I3,r3,k,e,q3⟩ => ?_) hm
 subst e
 cases r3
 exact wpAny_truthy_bool ⟨H3,I3,q3⟩
def yU (r r':R2) (ta tb tc:TE):TE:=fun σ H Q=>ta σ H fun x H1=>tb σ H1 fun y H2=>r x y H2 fun z H3=>∃ k,z = .bl k ∧
 (if k=true then tc σ H3 fun w' H4=>r' y w' H4 Q else Q (.bl false) H3)
theorem uL {op op':CmpOp} {r r':R2} (ho:OpR X (compareOp op) r) (ho':OpR X (compareOp op') r') (ha:PE X a ta) (hb:PE X b tb) (hc:PE X c tc)
  (hm:lastMarks [op,op'] [b,c]=false:=by with_unfolding_all rfl):PE X (.Compare a [op,op'] [b,c] pos) (yU r r' ta tb tc):=by
 intro pins s σ H Q I h
 refine Compare_chain (thn (ha pins s σ H _ I h) fun v s1 ⟨x,H1,I1,r1,q1⟩=>chain_link (thn (hb pins s1 σ H1 _ I1 q1) fun u s2 ⟨y,H2,I2,r2,q2⟩ =>
  thn (ho pins s2 σ H2 x y v u _ I2 r1 r2 q2) fun d s3 ⟨z,H3,I3,r3,k,e,q3⟩ => ?_)) hm
 subst e
 cases r3
 refine wpAny_truthy_bool ?_
 cases k with
 | false=>exact ite_ff ⟨.bl false,H3,I3,rfl,q3⟩
 | true=>exact ite_tt (chain_last (thn (hc pins s3 σ H3 _ I3 q3) fun w' s4 ⟨z',H4,I4,r4,q4⟩=>ho' pins s4 σ H4 y z' u w' Q I4 r2 r4 q4))
def Af (K:PySem.W.Frag) (x:V) (H:Hp) (k:Bool):Prop :=
 match x with
 | .non=>k=false
 | .bl b=>k=b
 | .int i=>k=(i != 0)
 | .str y=>y.length<=sizeLine/\k=((y.length:Int) != 0)
 | .byt y=>y.size<=sizeLine/\k=((y.size:Int) != 0)
 | .ref p=>(∃ xs,SqL K H p xs/\k = !xs.isEmpty)\/(∃ xs,SqT K H p xs/\k = !xs.isEmpty)\/∃ kvs,H p=some (.dK kvs)/\k = !kvs.isEmpty
 | _=>False
theorem qm {κ : Type} {kvs:List (κ × V)} {vs:List (κ × Value)} (r:KV kvs vs):(!vs.isEmpty) = !kvs.isEmpty:=by
 cases r <;> rfl
theorem jS {xs:List V} {its:List Value} (r:Vals xs its):(!its.toArray.isEmpty) = !xs.isEmpty:=by
 cases r <;> simp
theorem iN:(sizeLine:Nat) < 2 ^ 63:=by rw [sizeLine_eq]; decide
theorem yV:TruR X (fun x H Q=>∃ k,Af X.K x H k/\Q k H):=by
 intro pins s σ H x v Q I rx h
 obtain ⟨k,e,q⟩:=h
 have hl:=iN
 have hs:sizeLine=16777216:=sizeLine_eq
 cases x with
 | non =>
  cases rx
  have e':k=false:=e
  subst e'
  exact truthy_none ⟨H,I,q⟩
 | bl b =>
  cases rx
  have e':k=b:=e
  subst e'
  exact wpAny_truthy_bool ⟨H,I,q⟩
 | int i =>
  obtain ⟨t,rfl⟩:=rx
  have e':k=(i != 0):=e
  subst e'
  exact PySem.P.truthy_int ⟨H,I,q⟩
 | str y =>
  obtain ⟨t,rfl⟩:=rx
  obtain ⟨hy,e'⟩:y.length<=sizeLine/\k=((y.length:Int) != 0):=e
  subst e'
  exact PySem.P.truthy_str (by omega) ⟨H,I.tok _,q⟩
 | byt y =>
  obtain ⟨t,rfl⟩:=rx
  obtain ⟨hy,e'⟩:y.size<=sizeLine/\k=((y.size:Int) != 0):=e
  subst e'
  exact PySem.W.truthy_bytes (by omega) ⟨H,I.tok _,q⟩
 | ref p =>
  cases rx
  have e':(∃ xs,SqL X.K H p xs/\k = !xs.isEmpty)\/(∃ xs,SqT X.K H p xs/\k = !xs.isEmpty)\/∃ kvs,H p=some (.dK kvs)/\k = !kvs.isEmpty:=e
  rcases e' with ⟨xs,hx,e'⟩ | ⟨xs,hx,e'⟩ | ⟨kvs,hx,e'⟩
  ·subst e'
   obtain ⟨its,r,pl,hz⟩:=I.list hx
   have hlen:=r.length
   exact wpAny_truthy_list pl.isList (by simp only [AR]; omega) ⟨H,I.tok _,by rw [jS r]; exact q⟩
  ·subst e'
   obtain ⟨its,r,pl,hz⟩:=I.tuple hx
   have hlen:=r.length
   exact truthy_tuple pl (by simp only [AR]; omega) ⟨H,I.tok _,by rw [jS r]; exact q⟩
  ·subst e'
   obtain ⟨hz,hS,vs,r,m⟩:kvs.length<=sizeLine/\(p == sysModules)=false/\∃ vs,KV kvs vs/\s.heap.DictOf (bN X.prog X.w) p vs:=I.hok p _ hx
   have hlen:kvs.length=vs.length:=Dy r
   exact wpAny_truthy_dict hS m (by omega) ⟨H,I.tok _,by rw [qm r]; exact q⟩
 | _=>exact (show False from e).elim
theorem oE (ha:PE X a ta) (he:∀ whole,isTrue a X.env whole=(do let v ← whole; standAt a.pos; holding [v] (truthy v))) :
    PT X a (fun σ H Q=>ta σ H fun x H'=>∃ k,Af X.K x H' k/\Q k H'):=by
  intro pins s σ H Q I h
  exact isTrue_plain (thn (ha pins s σ H _ I h) fun v s1 ⟨x,H1,I1,r1,q1⟩=>yV pins s1 σ H1 x v Q I1 r1 q1) (he _)
theorem vals1 {x:V} {us:List Value} (r:Vals [x] us):∃ u,us=[u]/\RelV x u:=by
 cases r with
 | cons r1 r2=>cases r2; exact ⟨_,rfl,r1⟩
theorem vals2 {x y:V} {us:List Value} (r:Vals [x,y] us):∃ u w',us=[u,w']/\RelV x u/\RelV y w':=by
 cases r with
 | cons r1 r2 =>
  cases r2 with
  | cons r3 r4=>cases r4; exact ⟨_,_,rfl,r1,r3⟩
theorem gk (hc:X.calm=true):bJ X (.builtin "max") (fun xs H Q=>∃ i j,xs=[.int i,.int j]/\Q (.int (if j > i then j else i)) H):=by
 intro pins s σ H xs us Q I r h
 obtain ⟨i,j,rfl,q⟩:=h
 obtain ⟨u,w',rfl,⟨t,rfl⟩,⟨t',rfl⟩⟩:=vals2 r
 refine max_two_ints (I.ok.hd hc) fun h' tk k=>⟨_,H,I.kept k,?_,q⟩
 by_cases hj:j > i
 ·rw [if_pos hj,if_pos hj]; exact ⟨_,rfl⟩
 ·rw [if_neg hj,if_neg hj]; exact ⟨_,rfl⟩
theorem gn (hc:X.calm=true):bJ X (.builtin "min") (fun xs H Q=>∃ i j,xs=[.int i,.int j]/\Q (.int (if j < i then j else i)) H):=by
 intro pins s σ H xs us Q I r h
 obtain ⟨i,j,rfl,q⟩:=h
 obtain ⟨u,w',rfl,⟨t,rfl⟩,⟨t',rfl⟩⟩:=vals2 r
 refine min_two_ints (I.ok.hd hc) fun h' tk k=>⟨_,H,I.kept k,?_,q⟩
 by_cases hj:j < i
 ·rw [if_pos hj,if_pos hj]; exact ⟨_,rfl⟩
 ·rw [if_neg hj,if_neg hj]; exact ⟨_,rfl⟩
theorem iO:bJ X (.type "int") (fun xs H Q=>(∃ i,xs=[.int i]/\Q (.int i) H)\/∃ k,xs=[.bl k]/\Q (.int (if k then 1 else 0)) H):=by
 intro pins s σ H xs us Q I r h
 rcases h with ⟨i,rfl,q⟩ | ⟨k,rfl,q⟩
 ·obtain ⟨u,rfl,t,rfl⟩:=vals1 r
  exact call_int_int ⟨.int i,H,I,⟨_,rfl⟩,q⟩
 ·obtain ⟨u,rfl,r1⟩:=vals1 r
  cases r1
  exact call_int_bool ⟨.int (if k then 1 else 0),H,I.tok _,⟨_,rfl⟩,q⟩
end
open PySem PySem.Spec PyProof.Rows
structure yW (h:Heap) (x dx C:Addr) (mA:Str->Option Value):Prop where
 obj:h.get? x=some (PySem.W.instObj C dx)
 ns:h.Ns1 dx mA
 ne:dx ≠ x
theorem sS {h:Heap} {dx:Addr} {mA:Str->Option Value} (n:h.Ns1 dx mA):∃ od,h.get? dx=some od/\∀ name,PySem.W.lookIn name od=some (mA name):=by
 obtain ⟨o,es,ep,ho,hd,hk,_,hm⟩:=n
 refine ⟨o,ho,fun name => ?_⟩
 have e:=hm name
 unfold nsFind findBy at e
 rw [<- Array.find?_toList] at e
 unfold PySem.W.lookIn
 rw [hd]
 dsimp only
 split
 ·rename_i y q
  rw [q] at e
  exact congrArg some e
 ·rename_i q
  rw [q] at e
  have a:es.toList.any (·.refKey)=false:=by
   rw [List.any_eq_false]
   intro y hy
   obtain ⟨z,t,hkey⟩:=hk y (Bq.mp hy)
   simp [DictEntry.refKey,hkey]
  have a':¬ es.toList.any (·.refKey)=true:=by rw [a]; exact A9
  rw [if_neg a']
  exact congrArg some e
theorem yW.look {h:Heap} {x dx C:Addr} {mA:Str->Option Value} (I:yW h x dx C mA):∃ od,PySem.W.InstAt h x (PySem.W.instObj C dx) C (some od)/\∀ name,PySem.W.lookIn name od=some (mA name) :=
 let ⟨od,ho,hl⟩:=sS I.ns
 ⟨od,⟨I.obj,rfl,rfl,ho⟩,hl⟩
section
variable {prog:Program} {w:World} {A:Around} {E:Value->Shared->Prop} {s:Shared} {K:PySem.W.Frag} {x dx C f:Addr} {mA:Str->Option Value} {name:Str} {v:Value}
end
theorem jM.some_of {v:V} {o:Option Value} (r:jM (some v) o):∃ u,o=some u/\RelV v u:=by
 cases o with
 | none=>exact (show False from r).elim
 | some u=>exact ⟨u,rfl,r⟩
section
variable {P:Program} {w:World} {H H':Hp} {h h':Heap} {a C dx:Addr} {fs fs':List (Str × V)}
theorem wJ (hok:HOk P w H h) (e:H a=some (.ins C dx fs)):∃ mA,yW h a dx C mA/\(∀ f,jM (fs.lookup f) (mA f))/\PySem.Within mA (fs.map (·.1))/\fs.length<=1000/\H dx=some (.own a):=by
 obtain ⟨d,z,ne,ob,mA,n,r,q⟩:=(show bA P w H h a (.ins C dx fs) from hok a _ e)
 exact ⟨mA,⟨ob,n,ne⟩,r,q,z,d⟩
end
structure Cls (K:PySem.W.Frag) (C:Addr):Prop where
 pg:PySem.W.plainGet K C Str.empty=true
 hd:PySem.W.hasDictIn K C=true
 po:PySem.W.plainOver K C=true
 sa:PySem.W.findIn K (.ref C) "__setattr__" = some (some (.builtin "object.__setattr__"))
theorem Cls.get {K:PySem.W.Frag} {C:Addr} (c:Cls K C) (f:Str):PySem.W.plainGet K C f=true:=c.pg
structure Con (K:PySem.W.Frag) (C:Addr) (f:Str) (v:V) (u:Value):Prop where
 at_:PySem.W.findIn K (.ref C) f=some (some u)
 rel:RelV v u
 get:PySem.W.specialIn K u "__get__" = some none
 cp:PySem.W.copiedNames.contains f=false
section
variable {X:Cx} {pins:List (Addr × Obj)} {σ:St} {H:Hp} {s:Shared} {a C dx:Addr} {fs:List (Str × V)} {f:Str} {v:V} {A:Around} {E:Value->Shared->Prop}
end
section
variable {X:Cx} {o e value:Expr} {f:Str} {pos pos' tpos:Pos} {ta tv:TE}
end
section
variable {X:Cx} {pins:List (Addr × Obj)} {σ:St} {H:Hp} {s:Shared} {A:Around} {E:Value->Shared->Prop} {Q:Value->Shared->Prop} {c:Value} {b:Bool}
inductive h8 (K:PySem.W.Frag) (H:Hp):V->Value->Prop where
 | non:h8 K H .non (.type "NoneType")
 | bl (x:Bool):h8 K H (.bl x) (.type "bool")
 | int (i:Int):h8 K H (.int i) (.type "int")
 | str (x:Str):h8 K H (.str x) (.type "str")
 | flt (x:UInt64):h8 K H (.flt x) (.type "float")
 | lst {a:Addr} {xs:List V} (e:H a=some (.lst xs)):h8 K H (.ref a) (.type "list")
 | frz {a:Addr} {o:Obj} {xs:List V} (e:H a=some (.frz o (.lst xs))):h8 K H (.ref a) (.type "list")
 | tup {a:Addr} {xs:List V} (e:H a=some (.tup xs)):h8 K H (.ref a) (.type "tuple")
 | dK {a:Addr} {kvs:List (Key × V)} (e:H a=some (.dK kvs)):h8 K H (.ref a) (.type "dict")
 | dT {a:Addr} {kvs:List (List Key × V)} (e:H a=some (.dT kvs)):h8 K H (.ref a) (.type "dict")
 | ins {a C dx:Addr} {fs:List (Str × V)} (e:H a=some (.ins C dx fs)) (cl:Cls K C) (ha:PySem.W.findIn K (.ref C) "__class__" = some (some (.builtin "object.__class__")))
   (hn:PySem.W.specialIn K (.builtin "object.__class__") "__get__" = some (some (.builtin "getset_descriptor.__get__"))) (htk:PySem.W.takesIn K (.builtin "object.__class__")=some true)
   (hm:PySem.W.mroIn K C (.type "object")=some true):h8 K H (.ref a) (.ref C)
theorem sT {x:V} {u t:Value} (I:Inv X pins σ H s) (rx:RelV x u) (ty:h8 X.K H x t) (e:PySem.W.kitOne X.K t c=some b) (h:∀ tk,Q (.bool b) { s with toks:=tk }) :
  wpAny (model X.prog X.w) A (call (.builtin "isinstance") [u,c]) Q E s:=by
 cases ty with
 | non=>cases (show u=Value.none from rx); exact Cd PySem.W.kitx_none I.kIn True.intro e (fun z=>nomatch z) h
 | bl y=>cases (show u=Value.bool y from rx); exact Cd PySem.W.kitx_bool I.kIn True.intro e (fun z=>nomatch z) h
 | int i=>obtain ⟨t,q⟩:=(show ∃ t,u=Value.int i t from rx); cases q; exact Cd PySem.W.kitx_int I.kIn True.intro e (fun z=>nomatch z) h
 | str y=>obtain ⟨t,q⟩:=(show ∃ t,u=Value.str y t from rx); cases q; exact Cd PySem.W.kitx_str I.kIn True.intro e (fun z=>nomatch z) h
 | flt y=>obtain ⟨t,q⟩:=(show ∃ t,u=Value.float y t from rx); cases q; exact Cd PySem.W.kitx_float I.kIn True.intro e (fun z=>nomatch z) h
 | @lst a xs ea =>
  cases (show u=Value.ref a from rx)
  obtain ⟨_,_,n,_,h1⟩:=(show bA X.prog X.w H s.heap a (.lst xs) from I.hok a _ ea)
  exact Cd Gf I.kIn ⟨_,h1,rfl⟩ e (fun z=>nomatch z) h
 | @frz a ob xs ea =>
  cases (show u=Value.ref a from rx)
  obtain ⟨_,_,_,n,_,h1⟩:=(show bA X.prog X.w H s.heap a (.frz ob (.lst xs)) from I.hok a _ ea)
  exact Cd Gf I.kIn ⟨_,h1,rfl⟩ e (fun z=>nomatch z) h
 | @tup a xs ea =>
  cases (show u=Value.ref a from rx)
  obtain ⟨_,_,_,p⟩:=(show bA X.prog X.w H s.heap a (.tup xs) from I.hok a _ ea)
  obtain ⟨o,h1,h2,_⟩:=p
  exact Cd PySem.W.kitx_tuple I.kIn ⟨o,h1,h2.1⟩ e (fun z=>nomatch z) h
 | @dK a kvs ea =>
  cases (show u=Value.ref a from rx)
  obtain ⟨_,_,vs,_,p⟩:=(show bA X.prog X.w H s.heap a (.dK kvs) from I.hok a _ ea)
  obtain ⟨o,es,ep,h1,h2,_⟩:=p
  exact Cd Gg I.kIn ⟨o,h1,h2.1⟩ e (fun z=>nomatch z) h
 | @dT a kvs ea =>
  cases (show u=Value.ref a from rx)
  obtain ⟨_,_,xs,_,o,es,ep,h1,h2,_⟩:=(show bA X.prog X.w H s.heap a (.dT kvs) from I.hok a _ ea)
  exact Cd Gg I.kIn ⟨o,h1,h2.1⟩ e (fun z=>nomatch z) h
 | @ins a C dx fs ea cl ha hn htk hm =>
  cases (show u=Value.ref a from rx)
  obtain ⟨mA,O,_⟩:=wJ I.hok ea
  obtain ⟨od,J,_⟩:=O.look
  exact Cd (PySem.W.kitx_own (cl.get _) cl.hd ha hn htk hm) I.kIn J e (fun z=>nomatch z) h
end
open PySem PySem.Spec PyProof.Rows
structure du (k:Nat) (A:Around):Prop where
 hd:A.handled=none
 dp:A.depth + 3 * k + 5 < recursionLimit
 un:A.units + 16 * k + 200 < cLine
theorem du.mono {j k:Nat} {A:Around} (r:du k A) (h:j<=k):du j A:=⟨r.hd,by have:=r.dp; omega,by have:=r.un; omega⟩
theorem du.deeper {k:Nat} {A:Around} (r:du (k + 1) A) (env:Env):du k (A.deeper env) :=
 ⟨r.hd,by have:=r.dp; show A.depth + 1 + 3 * k + 5 < _; omega,by have:=r.un; show A.units + 3 + 16 * k + 200 < _; omega⟩
theorem du.depth {k:Nat} {A:Around} (r:du k A):A.depth < recursionLimit:=by have:=r.dp; omega
theorem du.units {k:Nat} {A:Around} (r:du k A):A.units + 64 < cLine:=by have:=r.un; omega
def tNil:TA:=fun _ H Q=>Q [] H
def Ag (ta:TE) (tr:TA):TA:=fun σ H Q=>ta σ H fun x H1=>tr σ H1 fun xs H2=>Q (x :: xs) H2
section
variable {X:Cx} {e:Expr} {es:List Expr} {te:TE} {t:TA} {pos:Pos}
theorem ag:PA X [] tNil:=fun _ _ _ _ H Q I h=>E2 ⟨[],H,I,.nil,h⟩
theorem aa (ha:PE X e te) (hr:PA X es t) (hs:starEach (e :: es) X.env=(false,eval e X.env) :: starEach es X.env:=by rfl):PA X (e :: es) (Ag te t):=by
 intro pos pins s σ H Q I h
 rw [hs]
 show wpAny _ _ (spliced ((false,eval e X.env) :: backTo pos (starEach es X.env))) _ _ s
 refine EM (thn (ha pins s σ H _ I h) fun u s1 ⟨x,H1,I1,r1,q1⟩ => ?_)
 exact thn (hr pos pins s1 σ H1 _ I1 q1) fun us s2 ⟨xs,H2,I2,r2,q2⟩=>⟨x :: xs,H2,I2,.cons r1 r2,q2⟩
def tTup (t:TA):TE:=fun σ H Q=>t σ H fun xs H1=>xs.length<=sizeLine/\∀ p,H1 p=none->Q (.ref p) (upd H1 p (.tup xs))
def tLst (t:TA):TE:=fun σ H Q=>t σ H fun xs H1=>xs.length<=sizeLine/\∀ p,H1 p=none->Q (.ref p) (upd H1 p (.lst xs))
theorem bD {x1} (h:PA X es t):PE X (.Tuple es x1 pos) (tTup t):=by
 intro pins s σ H Q I hq
 refine wpAny_Tuple_spliced (thn (h pos pins s σ H _ I hq) fun us s1 ⟨xs,H1,I1,r,z,q⟩=>⟨by rw [<- r.length]; exact z,?_⟩)
 have hf:H1 s1.heap.objs.size=none:=I1.hok.fresh (AS _)
 refine ⟨.ref s1.heap.objs.size,upd H1 s1.heap.objs.size (.tup xs),I1.laid (t':=s1.toks) (fun b u e=>AN _ e) (AS _) ?_,rfl,q _ hf⟩
 exact ⟨z,us,r,⟨_,A0 _ rfl,⟨rfl,rfl⟩,_,rfl⟩⟩
theorem cQ (h:PA X es t):PE X (.List es pos) (tLst t):=by
 intro pins s σ H Q I hq
 refine wpAny_List_spliced (thn (h pos pins s σ H _ I hq) fun us s1 ⟨xs,H1,I1,r,z,q⟩=>⟨by rw [<- r.length]; exact z,?_⟩)
 have hf:H1 s1.heap.objs.size=none:=I1.hok.fresh (AS _)
 refine ⟨.ref s1.heap.objs.size,upd H1 s1.heap.objs.size (.lst xs),I1.laid (t':=s1.toks) (fun b u e=>AN _ e) (AS _) ?_,rfl,q _ hf⟩
 exact ⟨z,us,0,r,A0 _ rfl⟩
end
abbrev Sp:=List V->Hp->VK->XK->Prop
abbrev CXT:=List Env->Hp->Shared->XK->Value->Shared->Prop
structure wK (P:Program) (w:World) (K:PySem.W.Frag) (mg:Str->Option Value) (base:Heap) (A:Around) (outer:List Env) (s:Shared) (H:Hp):Prop where
 frames:A.frames=some outer
 mod:Mod K mg base
 bs:∀ b o,base.get? b=some o->s.heap.get? b=some o/\H b=none
 bsz:base.objs.size<=s.heap.objs.size
 funs:s.heap.FunFrames base outer
 frf:∀ b ∈ frs outer,H b=none
 hok:HOk P w H s.heap
 bare:AllBare s.gens
def CE (outer:List Env) (P:Program) (w:World) (H:Hp) (s:Shared) (Q:VK) (u:Value) (s':Shared):Prop :=
 ∃ v H',s'.os=s.os/\AllBare s'.gens/\Un (frs outer) [] H H' s.heap s'.heap/\HOk P w H' s'.heap/\RelV v u/\Q v H'
def CR (CX:CXT) (outer:List Env) (P:Program) (w:World) (H:Hp) (s:Shared) (Q:VK) (E:XK) (r:Result) (s':Shared):Prop :=
 match r with
 | .ok (.ret u)=>CE outer P w H s Q u s'
 | .ok _=>False
 | .error e=>CX outer H s E e s'
structure cB (P:Program) (w:World) (K:PySem.W.Frag) (mg:Str->Option Value) (base:Heap) (CX:CXT) (k:Nat) (f:Addr) (fd:FuncData) (ps:List Str) (sp:Sp):Prop where
 len:∀ vs H Q E,sp vs H Q E->vs.length=ps.length
 run:∀ (A:Around) (outer:List Env) (s:Shared) (H:Hp) (args:Args) (us:List Value) (vs:List V) (Q:VK) (E:XK),du k A->wK P w K mg base A outer s H->BindsTo s fd args (ps.zip us)->Vals vs us->sp vs H Q E →
  codeAny (model P w) A (.call (.ref f) args) (CR CX outer P w H s Q E) s
section
variable {X:Cx} {pins:List (Addr × Obj)} {σ:St} {H:Hp} {s s':Shared}
theorem Inv.env0 (I:Inv X pins σ H s):wK X.prog X.w X.K X.mg X.base X.A X.stack s H :=
 ⟨I.ok.frames,I.ok.mod,I.bs,BF I.ok.bsz I.sz,I.stack,I.rz,I.hok,I.bare⟩
theorem Inv.after {Q:VK} {u:Value} (I:Inv X pins σ H s) (h:CE X.stack X.prog X.w H s Q u s'):EP X pins σ Q u s':=by
 obtain ⟨v,H',os,bare,un,hok,r,q⟩:=h
 obtain ⟨hh,g,d,t,os'⟩:=s'
 obtain rfl:os'=s.os:=os
 exact ⟨v,H',I.call (h':=hh) (g':=g) (d':=d) (t':=t) (ch:=[]) un hok bare (fun b z=>absurd z (by simp)),r,q⟩
end
def yg (sp:Sp) (dvs:List V) (E:XK) (t:TA):TE:=fun σ H Q=>t σ H fun vs H1=>sp (vs ++ dvs) H1 Q E
def Binds (K:PySem.W.Frag) (fd:FuncData) (ps:List Str) (ds:List Value):Prop :=
 ∀ (s:Shared) (us:List Value),K.In s.heap->(us ++ ds).length=ps.length->BindsTo s fd ⟨us,[]⟩ (ps.zip (us ++ ds))
theorem Binds.all {K:PySem.W.Frag} {fd:FuncData} {ps:List Str} (h:∀ us:List Value,us.length=ps.length->bindArgs fd ⟨us,[]⟩=pure (ps.zip us)):Binds K fd ps []:=fun s us _ hl=>by
 rw [BM] at hl ⊢
 exact .of_eq (h us hl)
def Passes (CX:CXT) (X:Cx) (E:XK):Prop:=∀ (pins:List (Addr × Obj)) (σ:St) (H:Hp) (s:Shared) (e:Value) (s':Shared),Inv X pins σ H s->CX X.stack H s E e s'->X.xe e s'
section
variable {X:Cx} {CX:CXT} {k:Nat} {f C:Addr} {fd:FuncData} {ps:List Str} {sp:Sp} {dvs:List V} {ds:List Value} {E:XK} {x m:Str} {p pos apos:Pos} {e o:Expr} {es:List Expr} {ta:TE} {t:TA}
theorem yX {pins:List (Addr × Obj)} {σ:St} {H:Hp} {s:Shared} {Q:VK} {us:List Value} {vs:List V} (F:cB X.prog X.w X.K X.mg X.base CX k f fd ps sp) (hr:du k X.A) (hb:Binds X.K fd ps ds) (hd:Vals dvs ds) (hx:Passes CX X E)
  (I:Inv X pins σ H s) (r:Vals vs us) (h:sp (vs ++ dvs) H Q E):wpAny (model X.prog X.w) X.A (call (.ref f) us) (EP X pins σ Q) X.xe s:=by
 have r2:Vals (vs ++ dvs) (us ++ ds):=r.append hd
 have hl:(us ++ ds).length=ps.length:=by rw [<- r2.length]; exact F.len _ _ _ _ h
 refine wpAny_call (codeAny_mono (F.run X.A X.stack s H ⟨us,[]⟩ (us ++ ds) (vs ++ dvs) Q E hr I.env0 (hb s us I.kIn hl) r2 h) fun r s' hq => ?_)
 cases r with
 | error e=>exact hx pins σ H s e s' I hq
 | ok fl =>
  cases fl with
  | ret u=>exact I.after hq
  | next=>exact False.elim hq
  | brk=>exact False.elim hq
  | cont=>exact False.elim hq
theorem wL (F:cB X.prog X.w X.K X.mg X.base CX k f fd ps sp) (hr:du k X.A) (hg:Gl X x) (hm:X.mg x=some (.ref f)) (hk:PySem.W.keepIn X.K (.ref f)=true) (hb:Binds X.K fd ps ds) (hd:Vals dvs ds) (hx:Passes CX X E)
  (ha:PA X (e :: es) t) (hdb:(x == ("__debug__" : Str))=false:=by decide) (he:starEach (e :: es) X.env=(false,eval e X.env) :: starEach es X.env:=by rfl) (hpl:(backTo pos (starEach es X.env)).any (·.1)=false:=by rfl) :
  PE X (.Call (.Name x p) (e :: es) [] pos) (yg sp dvs E t):=by
 intro pins s σ H Q I h
 refine wpAny_Call_Name_kw (wG I hg hm ?_ hdb)
 refine PySem.W.callWith_K (h₀:=X.base) I.ok.mod.kin hk (thn (ha pos pins s σ H _ I h) fun us s1 ⟨vs,H1,I1,r,q⟩=>⟨I1.kIn,?_⟩) he hpl
 exact yX F hr hb hd hx I1 r q
end
section
variable {X:Cx} {CX:CXT} {k:Nat} {f C:Addr} {fd:FuncData} {ps ks:List Str} {sp:Sp} {E:XK} {x m:Str} {p pos apos kpos:Pos} {e o:Expr} {es:List Expr} {kws:List Keyword} {te ta:TE} {t tk:TA} {nm:Option Str}
variable {g:List Value->List Value->List Value} {gV:List V->List V->List V}
end
structure aW (N P:List Str) (sc:Scope):Prop where
 kind:sc.kind = .function
 co:sc.isCoroutine=false
 gen:sc.isGenerator=false
 nd:N.Nodup
 pre:N.take P.length=P
 par:∀ x ∈ P,sc.names.lookup x=some .local\/sc.names.lookup x=some .cell
 nofree:∀ y ∈ sc.names,y.2 ≠ .free
theorem lQ {kindOf:Str->Option NameKind} {x:Str}:∀ {binds:List (Str × Value)} {m:Str->Option Value},(∀ v,(x,v) ∉ binds)->bindL kindOf binds m x=m x
 | [],_,_=>rfl
 | (n,v) :: r,m,h=>by
  unfold bindL
  rw [lQ fun w hw=>h w (Bh _ hw)]
  split
  ·have:x ≠ n:=by rintro rfl; exact h v Bg
   simp [this]
  ·rfl
theorem lR {kindOf:Str->Option NameKind} {x:Str}:∀ {binds:List (Str × Value)} {m:Str->Option Value},(∀ v,(x,v) ∉ binds)->bindC kindOf binds m x=m x
 | [],_,_=>rfl
 | (n,v) :: r,m,h=>by
  unfold bindC
  rw [lR fun w hw=>h w (Bh _ hw)]
  split
  ·rfl
  ·have:x ≠ n:=by rintro rfl; exact h v Bg
   simp [this]
theorem lS {kindOf:Str->Option NameKind} {x:Str} {v:Value}:∀ {P:List Str} {vs:List Value} {i:Nat} {m:Str->Option Value},P.Nodup->P[i]? = some x->vs[i]? = some v->kindOf x=some .local →
  bindL kindOf (P.zip vs) m x=some v
 | [],_,_,_,_,h,_,_=>by simp at h
 | _ :: _,[],_,_,_,_,h,_=>by simp at h
 | p :: P,w :: vs,0,m,nd,h1,h2,hk=>by
  simp at h1 h2; subst h1; subst h2
  show bindL kindOf ((p,w) :: P.zip vs) m p=_
  unfold bindL
  rw [lQ fun v hv=>(B8.mp nd).1 (Fu hv).1,if_pos hk]
  simp
 | p :: P,w :: vs,i + 1,m,nd,h1,h2,hk=>by
  show bindL kindOf ((p,w) :: P.zip vs) m x=_
  unfold bindL
  exact lS (i:=i) (B8.mp nd).2 (by simpa using h1) (by simpa using h2) hk
theorem lT {kindOf:Str->Option NameKind} {x:Str} {v:Value}:∀ {P:List Str} {vs:List Value} {i:Nat} {m:Str->Option Value},P.Nodup->P[i]? = some x->vs[i]? = some v->kindOf x ≠ some .local →
  bindC kindOf (P.zip vs) m x=some v
 | [],_,_,_,_,h,_,_=>by simp at h
 | _ :: _,[],_,_,_,_,h,_=>by simp at h
 | p :: P,w :: vs,0,m,nd,h1,h2,hk=>by
  simp at h1 h2; subst h1; subst h2
  show bindC kindOf ((p,w) :: P.zip vs) m p=_
  unfold bindC
  rw [lR fun v hv=>(B8.mp nd).1 (Fu hv).1,if_neg hk]
  simp
 | p :: P,w :: vs,i + 1,m,nd,h1,h2,hk=>by
  show bindC kindOf ((p,w) :: P.zip vs) m x=_
  unfold bindC
  exact lT (i:=i) (B8.mp nd).2 (by simpa using h1) (by simpa using h2) hk
def start (N:List Str) (vs:List V):St:=vs.map some ++ List.replicate (N.length - vs.length) none
def ly (CX:CXT) (P:Program) (w:World) (K:PySem.W.Frag) (mg:Str->Option Value) (base:Heap) (N:List Str) (qual:Str) (scope:Scope) (f:Addr) (cd:Value) (A:Around) (outer:List Env) (s:Shared) (H:Hp) (E:XK):Cx where
 prog:=P
 w:=w
 K:=K
 mg:=mg
 base:=base
 A:=A.deeper (envOfC qual scope s.heap.objs.size f cd)
 N:=N
 s₀:=s
 H₀:=H
 env:=envOfC qual scope s.heap.objs.size f cd
 outer:=outer
 stack:=envOfC qual scope s.heap.objs.size f cd :: outer
 ex:=[]
 calm:=true
 fn:=fun _=>true
 pn:=[]
 xe:=fun e s'=>wpAny (model P w) (A.deeper (envOfC qual scope s.heap.objs.size f cd)) (leaving (envOfC qual scope s.heap.objs.size f cd) e) (fun _ s''=>CX outer H s E e s'') (fun e' s''=>CX outer H s E e' s'') s'
theorem oF {sc:Scope} {n:Nat} {x:Str} (h:sc.names.lookup x=some .cell):∃ c,(cellsFrom n sc.names []).lookup x=some c:=by
 have q:=Fn sc.names n [] (.inl h)
 exact DQ.mp q
theorem sU {CX:CXT} {P:Program} {w:World} {K:PySem.W.Frag} {mg:Str->Option Value} {base:Heap} {N ps:List Str} {qual:Str} {scope:Scope} {f:Addr} {cd:Value} {A:Around} {outer:List Env} {s s1:Shared} {H:Hp} {E:XK} {us:List Value} {vs:List V}
  (S:aW N ps scope) (hd:A.handled=none) (e0:wK P w K mg base A outer s H) (hl:vs.length=ps.length) (r:Vals vs us)
  (x:InCallC s s.heap.objs.size (bindL (envOfC qual scope s.heap.objs.size f cd).kindOf (ps.zip us) fun _=>none) (cellsFrom (s.heap.objs.size + 1) scope.names []) (bindC (envOfC qual scope s.heap.objs.size f cd).kindOf (ps.zip us) fun _=>none) s1) :
  Inv (ly CX P w K mg base N qual scope f cd A outer s H E) [] (start N vs) H s1:=by
 have hpl:ps.length<=N.length:=by have:=congrArg List.length S.pre; rw [BL] at this; omega
 obtain ⟨h1,tk,rfl,hk⟩:=x.done
 have noA:∀ b:Addr,b ∉ (ly CX P w K mg base N qual scope f cd A outer s H E).ex:=fun b z=>absurd (show b ∈ ([]:List Addr) from z) (by simp)
 refine ⟨⟨e0.mod,S.kind,rfl,rfl,AS _,fun y z c h1 h2 => ?_,fun y hy => ?_,fun y c _ h => ?_,fun _=>hd,Around.frames_deeper e0.frames,.inr ⟨rfl,rfl⟩,fun b z=>absurd z (noA b),e0.bs,e0.bsz,fun b _ _=>noA b,fun b z=>absurd z (noA b),e0.funs,e0.frf⟩,
  rfl,e0.bare,Un.kept hk,⟨_,x.toInCall.ns,fun i y v h1 h2 h3 => ?_⟩,fun y c h=>⟨_,x.cell y c h⟩,e0.hok.fresh (AS _),fun y c h => ?_,fun p hp=>absurd (show p ∈ ([]:List (Addr × Obj)) from hp) (by simp),e0.hok.kept hk,?_⟩
 ·exact name_of_addr x.apart (CN h1) (CN h2)
 ·have hy:scope.names.lookup y=some .cell\/scope.names.lookup y=some .free:=hy
  rcases hy with hy | hy
  ·exact oF hy
  ·exact absurd rfl (S.nofree _ (CN hy))
 ·exact DP (x.above y c (CN h))
 ·have hi:i < vs.length:=by
   unfold start at h2
   by_cases hi:i < vs.length
   ·exact hi
   ·rw [Bk (by simpa using hi)] at h2
    rw [D2] at h2
    split at h2 <;> cases h2
  have ha:vs[i]? = some v:=by
   unfold start at h2
   rw [Bf (by simpa using hi),AX] at h2
   cases e:vs[i]? with
   | none=>rw [e] at h2; cases h2
   | some a=>rw [e] at h2; cases h2; rfl
  obtain ⟨u,hu,rv⟩:=r.get ha
  have hp:ps[i]? = some y:=by
   rw [<- S.pre,List.getElem?_take_of_lt (by omega)]; exact h1
  have ndP:ps.Nodup:=by rw [<- S.pre]; exact S.nd.sublist (B3 _ _)
  refine ⟨u,rv,?_⟩
  rcases S.par y (AY hp) with k | k
  ·exact .inl ⟨k,lS ndP hp hu k⟩
  ·obtain ⟨c,e⟩:=oF (n:=s.heap.objs.size + 1) k
   refine .inr ⟨.inl k,c,e,?_⟩
   have q:=x.cell y c e
   rw [lT ndP hp hu (by show scope.names.lookup y ≠ _; rw [k]; decide)] at q
   exact q
 ·exact e0.hok.fresh (DP (x.above y c (CN h)))
 ·unfold start
  show _=N.length
  rw [AQ,AM,CU]
  omega
theorem Ah {CX:CXT} {P:Program} {w:World} {K:PySem.W.Frag} {mg:Str->Option Value} {base:Heap} {k:Nat} {f:Addr} {name qual:Str} {params:Arguments} {body:List Stmt} {scope:Scope} {dV kV doc pm cdv ct oc:Value} {an od:Option Addr}
  {osl:Array (Option Value)} {N ps:List Str} {sp:Sp} (lk:K.lookup f=some ⟨oc,od,.func (PySem.W.fnOf name qual params body scope dV kV doc pm an cdv ct),osl⟩) (hcd:PySem.W.codeIn K cdv qual=true) (S:aW N ps scope)
  (len:∀ vs H Q E,sp vs H Q E->vs.length=ps.length)
  (hbody:∀ (A:Around) (outer:List Env) (s:Shared) (H:Hp) (vs:List V) (Q:VK) (E:XK),du k (A.deeper (envOfC qual scope s.heap.objs.size f cdv))->sp vs H Q E →
   ∃ t,PSs (ly CX P w K mg base N qual scope f cdv A outer s H E) body t/\t { nx:=fun _ H'=>Q .non H',rt:=Q } (start N vs) H) :
  cB P w K mg base CX (k + 1) f (PySem.W.fnOf name qual params body scope dV kV doc pm an cdv ct) ps sp:=by
 refine ⟨len,fun A outer s H args us vs Q E hr e0 hb r hsp => ?_⟩
 have hl:=len _ _ _ _ hsp
 have KX:K.In s.heap:=e0.mod.kin.keeps fun b o e=>(e0.bs b o e).1
 have lim:s.heap.NoLimit:=e0.mod.nolimit.keeps fun b o e=>(e0.bs b o e).1
 have hkind:∀ y ∈ ps.zip us,scope.names.lookup y.1=some .local\/(scope.names.lookup y.1=some .cell/\((cellsFrom (s.heap.objs.size + 1) scope.names []).lookup y.1).isSome=true):=fun ⟨n,v⟩ hy=>by
  rcases S.par n (Fu hy).1 with q | q
  ·exact .inl q
  ·exact .inr ⟨q,Fn _ _ _ (.inl q)⟩
 refine codeAny_call_function hr.depth (KX _ _ lk) rfl S.co S.gen rfl (PySem.W.codeRec_of KX hcd) (hb _ _ _ _ ?_)
 refine wpAny_newFunctionEnv_cells S.kind hkind fun env he s1 x => ?_
 subst he
 refine ⟨lim.keeps x.toInCall.keep,codeAny_func ?_⟩
 obtain ⟨t,ht,hq⟩:=hbody A outer s H vs Q E (hr.deeper _) hsp
 have I:Inv (ly CX P w K mg base N qual scope f cdv A outer s H E) [] (start N vs) H s1:=sU S hr.hd e0 hl r x
 refine wpAny_mono (ht [] s1 (start N vs) H _ I hq) (fun fl s' hs => ?_) fun e s' hs=>hs
 have fin:∀ {σ':St} {H':Hp} {v:V} {u:Value},Inv (ly CX P w K mg base N qual scope f cdv A outer s H E) [] σ' H' s'->RelV v u->Q v H'->CE outer P w H s Q u s' :=
  fun {σ' H' v u} J rv q=>⟨v,H',J.os,J.bare,J.base,J.hok,rv,q⟩
 cases fl with
 | ret u =>
  obtain ⟨v,σ',H',J,rv,q⟩:=hs
  exact fin J rv q
 | next =>
  obtain ⟨σ',H',J,q⟩:=hs
  exact fin (v:=V.non) (u:=Value.none) J rfl q
 | brk =>
  obtain ⟨_,_,_,q⟩:=hs
  exact False.elim q
 | cont =>
  obtain ⟨_,_,_,q⟩:=hs
  exact False.elim q
open PySem PySem.Spec PyProof.Rows
section
variable {X:Cx} {x:Str} {p pos:Pos} {e:Expr} {es:List Expr} {t:TA} {id T:String} {r:List V->Hp->VK->Prop}
def tCB (r:List V->Hp->VK->Prop) (t:TA):TE:=fun σ H Q=>t σ H fun vs H1=>r vs H1 Q
theorem aq (hc:bJ X (.builtin id) r) (hg:Gl X x) (hm:X.mg x=none) (hv:bootBuiltins x=some (.builtin id)) (ha:PA X (e :: es) t) (hn:x ≠ "__name__" := by decide) (hdb:(x == ("__debug__" : Str))=false:=by decide)
  (he:starEach (e :: es) X.env=(false,eval e X.env) :: starEach es X.env:=by rfl) (hpl:(backTo pos (starEach es X.env)).any (·.1)=false:=by rfl):PE X (.Call (.Name x p) (e :: es) [] pos) (tCB r t):=by
 intro pins s σ H Q I h
 refine wpAny_Call_Name_kw (dk I hg hm hv ?_ hn hdb)
 exact PyProof.Rows.callWith_builtin1 (thn (ha pos pins s σ H _ I h) fun us s1 ⟨vs,H1,I1,r1,q1⟩=>hc pins s1 σ H1 vs us Q I1 r1 q1) he hpl
theorem aI (hc:bJ X (.type T) r) (hg:Gl X x) (hm:X.mg x=none) (hv:bootBuiltins x=some (.type T)) (ha:PA X (e :: es) t) (hn:x ≠ "__name__" := by decide) (hdb:(x == ("__debug__" : Str))=false:=by decide)
  (he:starEach (e :: es) X.env=(false,eval e X.env) :: starEach es X.env:=by rfl) (hpl:(backTo pos (starEach es X.env)).any (·.1)=false:=by rfl):PE X (.Call (.Name x p) (e :: es) [] pos) (tCB r t):=by
 intro pins s σ H Q I h
 refine wpAny_Call_Name_kw (dk I hg hm hv ?_ hn hdb)
 exact BR (thn (ha pos pins s σ H _ I h) fun us s1 ⟨vs,H1,I1,r1,q1⟩=>hc pins s1 σ H1 vs us Q I1 r1 q1) he hpl
end
end L2
namespace HT
open PySem PyProof.Rows
def lexLt:List Int->List Int->Bool
 | [],[]=>false
 | [],_ :: _=>true
 | _ :: _,[]=>false
 | x :: xs,y :: ys=>if x=y then lexLt xs ys else decide (x < y)
theorem cV (x y:Int) (xs ys:List Int):lexLt (x :: xs) (y :: ys)=if x=y then lexLt xs ys else decide (x < y):=rfl
theorem lA:lexLt [] []=false:=rfl
theorem jT (y:Int) (ys:List Int):lexLt [] (y :: ys)=true:=rfl
theorem jU (x:Int) (xs:List Int):lexLt (x :: xs) []=false:=rfl
theorem uM (A:Around) (s:Shared) (a:Int) (t:Tok) (c:Int) (u:Tok):∃ e,SeqAt.EqAt A s (.int a t) (.int c u) e/\(e=true ↔ a=c) :=
 ⟨(a == c),Dq a t c u,by simp⟩
theorem oG (A:Around) (s:Shared) (a:Int) (t:Tok) (c:Int) (u:Tok) (prog:Program) (w:World) (E:Value->Shared->Prop) (Q:Value->Shared->Prop) (h:Q (.bool (decide (a < c))) s) :
  wpAny (model prog w) A (richCompare .Lt (.int a t) (.int c u)) Q E s :=
 (PyProof.Rows.lt_int h:wpAny (model prog w) A (compareOp .Lt (.int a t) (.int c u)) Q E s)
section
open PySem.SeqAt
open PySem.AutoSeq1 (wpAny_loadPart')
open PySem.MeetsSeq PySem.MeetsSeq2 PySem.MeetsSeq3
theorem lB (l b:Addr) (items items2:Array Value) (n n2:Nat) (dd dd2:Option Addr) (sl sl2:Array (Option Value)) (ns ms:List Int) (hi:IntsAre items.toList ns) (hj:IntsAre items2.toList ms) :
  Meets (Builtin.«tuple.__lt__» ⟨[.ref l,.ref b],[]⟩)
   (fun _ R s=>s.heap.get? l=some { cls := .type "tuple",dict:=dd,data := .seq items n,slots:=sl }/\s.heap.get? b=some { cls := .type "tuple",dict:=dd2,data := .seq items2 n2,slots:=sl2 } ∧
    R (.ok (.ret (.bool (lexLt ns ms)))) s) :=
 .of_wp fun prog w A R s h=>by
  obtain ⟨hp,g,d,tk,os⟩:=s; obtain ⟨hl,hb,h⟩:=h
  have f2:=AutoSeq1.sub_tuple_tuple
  have z1:items.size=ns.length:=by rw [<- hi.length]; simp
  have z2:items2.size=ms.length:=by rw [<- hj.length]; simp
  wp_walk using wpAny_loadPart' hl,wpAny_loadPart' hb,wpAny_forIn_list _ (fun rest b s'=>b.1=none/\s'=⟨hp,g,d,tk,os⟩/\∃ (vs ws:List Value) (ns' ms':List Int),rest=vs.zip ws ∧
   IntsAre vs ns'/\IntsAre ws ms'/\ns'.length + items2.size=ms'.length + items.size/\R (.ok (.ret (.bool (lexLt ns' ms')))) ⟨hp,g,d,tk,os⟩) _
  case turn =>
   rintro ⟨y,x⟩ rest b s' ⟨hb',rfl,vs,ws,ns',ms',hz,hvi,hwi,hlen,hR⟩
   cases hvi with
   | nil=>rw [List.zip_nil_left] at hz; cases hz
   | cons a t hvi' =>
    cases hwi with
    | nil=>rw [List.zip_nil_right] at hz; cases hz
    | cons c u hwi' =>
     rw [D3] at hz
     injection hz with hyx hrest
     injection hyx with hy hx
     subst hy hx
     rw [cV] at hR
     simp only [Bn] at hlen
     obtain ⟨e,he,hiff⟩:=uM A.in1 ⟨hp,g,d,tk,os⟩ a t c u
     refine wpAny_bind (he prog w _ _ ?_)
     cases e with
     | true =>
      rw [if_pos (hiff.mp rfl)] at hR
      wp_walk
      exact ⟨rfl,rfl,_,_,_,_,hrest,hvi',hwi',by omega,hR⟩
     | false =>
      rw [if_neg (fun q=>absurd (hiff.mpr q) A9)] at hR
      have hri:=oG A.in1 ⟨hp,g,d,tk,os⟩ a t c u prog w
      wp_walk using hri
      exact ⟨_,rfl,by simpa using hR⟩
  case fin =>
   rintro ⟨b1,b2⟩ s' ⟨hb',rfl,vs,ws,ns',ms',hz,hvi,hwi,hlen,hR⟩
   simp only at hb'
   subst hb'
   have hv:lexLt ns' ms'=decide (items.size < items2.size):=by
    cases hvi with
    | nil =>
     cases hwi with
     | nil =>
      simp only [CB] at hlen
      rw [lA]
      exact (decide_eq_false (by omega)).symm
     | cons c u hw =>
      simp only [CB,Bn] at hlen
      rw [jT]
      exact (decide_eq_true (by omega)).symm
    | cons a t hv =>
     cases hwi with
     | nil =>
      simp only [CB,Bn] at hlen
      rw [jU]
      exact (decide_eq_false (by omega)).symm
     | cons c u hw =>
      rw [D3] at hz
      cases hz
   rw [hv] at hR
   wp_walk
   exact ⟨_,rfl,by simpa [Builtin.Tuple.tupleCompareSizes] using hR⟩
  case h =>
   exact ⟨rfl,rfl,items.toList,items2.toList,ns,ms,rfl,hi,hj,by omega,h⟩
end
section
variable {prog:Program} {w:World} {A:Around} {E:Value->Shared->Prop} {s:Shared}
theorem qo {l b:Addr} {items items2:Array Value} {ns ms:List Int} {Q:Value->Shared->Prop} (hl:IsTup s.heap l items) (hb:IsTup s.heap b items2) (hi:IntsAre items.toList ns) (hj:IntsAre items2.toList ms)
  (hu:A.units < cLine) (h:Q (.bool (lexLt ns ms)) s):wpAny (model prog w) A (compareOp .Lt (.ref l) (.ref b)) Q E s:=by
 obtain ⟨⟨cls,dd,data,sl⟩,ho,hc,n,hd⟩:=id hl
 obtain ⟨⟨cls2,dd2,data2,sl2⟩,ho2,hc2,n2,hd2⟩:=id hb
 simp only at hc hd hc2 hd2
 subst hc hd hc2 hd2
 exact richCompare_meets_room (op := .Lt) ⟨_,ho,rfl⟩ ⟨_,ho2,rfl⟩ PySem.F.slot_tuple_lt PySem.F.entry_tuple_lt (PySem.F.args_tuple_lt_2 _ _) (lB l b items items2 n n2 dd dd2 sl sl2 ns ms hi hj)
  ⟨ho,ho2,show Value.bool (lexLt ns ms) ≠ Value.notImplemented/\Q (.bool (lexLt ns ms)) s from ⟨(fun x=>nomatch x),h⟩⟩ hu
theorem wM {t b:Addr} {vs ws:List Value} {Q:Value->Shared->Prop} (ht:IsTup s.heap t vs.toArray) (hb:IsTup s.heap b ws.toArray) (hv:vs ≠ [])
  (h1:ws=[]->Q (.ref t) s) (h2:ws ≠ []->Q (.ref s.heap.objs.size) { s with heap:=s.heap.push { cls := .type "tuple",data := .seq (vs ++ ws).toArray } })
  (hsz:vs.length + ws.length<=sizeLine):wpAny (model prog w) A (binaryOp .Add (.ref t) (.ref b)) Q E s:=by
 obtain ⟨⟨cls,dd,data,sl⟩,ho,hc,n,hd⟩:=id ht
 obtain ⟨⟨cls2,dd2,data2,sl2⟩,ho2,hc2,n2,hd2⟩:=id hb
 simp only at hc hd hc2 hd2
 subst hc hd hc2 hd2
 have e:vs.toArray ++ ws.toArray=(vs ++ ws).toArray:=by simp
 by_cases hw:ws=[]
 ·exact concat_meets ⟨_,ho,rfl⟩ ⟨_,ho2,rfl⟩ noFill_tuple_add seq_tuple_add D9 D4 (DR _ _)
   (tuple_addW1 t b vs.toArray ws.toArray n n2 dd dd2 sl sl2 (by simpa using hv) (by simp [hw])) ⟨ho,ho2,h1 hw⟩
 ·refine concat_meets ⟨_,ho,rfl⟩ ⟨_,ho2,rfl⟩ noFill_tuple_add seq_tuple_add D9 D4 (DR _ _)
   (tuple_addW2 t b vs.toArray ws.toArray n n2 dd dd2 sl sl2 (by simpa using hv) (by simpa using hw) (by rw [AR,AR]; exact hsz)) ⟨ho,ho2,?_⟩
  rw [e]
  exact h2 hw
def sIx (n d:Nat):Option Int->Nat
 | none=>d
 | some v=>if v < 0 then (v + (n:Int)).toNat else min v.toNat n
theorem yY (n d:Nat) (hd:d<=n) (o:Option Int):sIx n d o<=n:=by
 cases o with
 | none=>exact hd
 | some v =>
  show (if v < 0 then (v + (n:Int)).toNat else min v.toNat n)<=n
  by_cases hv:v < 0
  ·rw [if_pos hv]; omega
  ·rw [if_neg hv]; exact Nat.min_le_right _ _
theorem rG (v:Int) (n d:Nat):(if v < 0 then max (v + (n:Int)) 0 else min v (n:Int))=((sIx n d (some v):Nat):Int):=by
 show (if v < 0 then max (v + (n:Int)) 0 else min v (n:Int))=(((if v < 0 then (v + (n:Int)).toNat else min v.toNat n):Nat):Int)
 by_cases hv:v < 0
 ·simp only [if_pos hv]; omega
 ·simp only [if_neg hv]; omega
theorem qp (lo hi:Option Int) (n:Nat):Builtin.Slice.sliceAdjust lo hi 1 (n:Int)=(((sIx n 0 lo:Nat):Int),((sIx n n hi:Nat):Int)):=by
 have h1:¬ ((1:Int) < 0):=by omega
 unfold Builtin.Slice.sliceAdjust
 simp only [h1,if_false]
 refine FU ?_ ?_
 ·cases lo with
  | none=>rfl
  | some v=>exact rG v n 0
 ·cases hi with
  | none=>rfl
  | some v=>exact rG v n n
theorem qq (i j:Nat):Builtin.Slice.slicePlaces (i:Int) (j:Int) 1=j - i:=by
 unfold Builtin.Slice.slicePlaces
 have h1:(1:Int) > 0:=by omega
 simp only [h1,if_true,Int.ediv_one]
 split <;> omega
theorem jV {v:Value} {o:Option Int} {Q:Option Int->Shared->Prop} (p:IsPart v o) (h:Q o s):wpAny (model prog w) A (Builtin.Slice.slicePartIndex v) Q E s:=by
 cases p with
 | none=>exact slicePart_none h
 | int i t=>exact slicePart_int h
theorem eG {sl:Addr} {vl vu:Value} {lo hi:Option Int} {n:Nat} {Q:Int × Int × Nat->Shared->Prop} (hs:s.heap.IsSliceOf sl vl vu .none) (pl:IsPart vl lo) (pu:IsPart vu hi)
  (h:Q (((sIx n 0 lo:Nat):Int),1,sIx n n hi - sIx n 0 lo) s):wpAny (model prog w) A (Builtin.Slice.sliceApplied (.ref sl) (pure (n:Int))) Q E s:=by
 obtain ⟨os,hos,hcs,hds⟩:=id hs
 unfold Builtin.Slice.sliceApplied Builtin.Slice.sliceFields
 refine wpAny_bind (wpAny_bind (wpAny_field hos hds (x:=vl) rfl (wpAny_bind (wpAny_field hos hds (x:=vu) rfl (wpAny_bind (wpAny_field hos hds (x := .none) rfl (wpAny_pure ?_)))))))
 refine wpAny_bind (slicePart_none ?_)
 show wpAny _ _ (if ((1:Int) == 0)=true then _ else _) _ _ s
 rw [if_neg (by decide)]
 refine wpAny_bind (jV pl (wpAny_bind (jV pu (wpAny_bind (wpAny_pure ?_)))))
 show wpAny _ _ (match Builtin.Slice.sliceAdjust lo hi 1 (n:Int) with | (lo,hi)=>pure (lo,(1:Int),Builtin.Slice.slicePlaces lo hi 1)) _ _ s
 rw [qp lo hi n]
 show wpAny _ _ (pure (((sIx n 0 lo:Nat):Int),(1:Int),Builtin.Slice.slicePlaces ((sIx n 0 lo:Nat):Int) ((sIx n n hi:Nat):Int) 1)) _ _ s
 rw [qq]
 exact wpAny_pure h
theorem uN (xs:Array Value) (i k:Nat):((List.range k).filterMap fun (m:Nat)=>xs[((i:Int) + (m:Int) * 1).toNat]?).toArray=((xs.toList.drop i).take k).toArray:=by
 have e:(fun (m:Nat)=>xs[((i:Int) + (m:Int) * 1).toNat]?)=fun m=>xs[i + m]? := by
  funext m
  have:((i:Int) + (m:Int) * 1).toNat=i + m:=by omega
  rw [this]
 rw [e]
 have:=pick_run xs i k
 rw [FV] at this
 have e2:((fun x=>xs[x]?) ∘ fun x=>i + x)=fun m=>xs[i + m]? := rfl
 rw [e2] at this
 rw [this]
theorem h9 {t sl:Addr} {items:Array Value} {vl vu:Value} {lo hi:Option Int} {Q:Value->Shared->Prop} (ht:IsTup s.heap t items) (hs:s.heap.IsSliceOf sl vl vu .none) (pl:IsPart vl lo) (pu:IsPart vu hi)
  (hw:¬ (sIx items.size 0 lo=0/\sIx items.size items.size hi=items.size))
  (h:Q (.ref s.heap.objs.size) { s with heap:=s.heap.push { cls := .type "tuple",data := .seq ((items.toList.drop (sIx items.size 0 lo)).take (sIx items.size items.size hi - sIx items.size 0 lo)).toArray } })
  (hsz:items.size<=sizeLine):wpAny (model prog w) A (getItem (.ref t) (.ref sl)) Q E s:=by
 have htake:sizeOk (.seq ((items.toList.drop (sIx items.size 0 lo)).take (sIx items.size items.size hi - sIx items.size 0 lo)).toArray):=by
  show ((items.toList.drop (sIx items.size 0 lo)).take (sIx items.size items.size hi - sIx items.size 0 lo)).toArray.size<=sizeLine
  rw [AR,BL,BS,AW]
  omega
 have hj:sIx items.size items.size hi<=items.size:=yY _ _ (AS _) hi
 obtain ⟨os,hos,hcs,hds⟩:=id hs
 have hTs:s.TypeIs (.ref sl) "slice" := ⟨os,hos,hcs⟩
 unfold getItem
 try with_reducible refine wpAny_holding ?_
 first | refine wpAny_bind (wpAny_pure ?_) | skip
 refine wpAny_bind (wpAny_sequenceKey ht.typeIs (by decide) ?_)
 refine wpAny_bind (wpAny_callSpecial?_slot (name:=Str.ofString "__getitem__") ht.typeIs BI
  (wpAny_call_entry BI ht.typeIs entry_tuple_getitem ?_ (args_tuple_getitem _ _)))
 show wpAny _ _ (Builtin.Tuple.tupleItemsOf (.ref t) >>= _) _ _ s
 refine wpAny_bind (tupleItemsOf_ ht ?_)
 refine wpAny_bind (wpAny_typeOf hTs ?_)
 rw [if_pos (by decide)]
 refine wpAny_bind (eG hs pl pu ?_)
 have hno:¬ ((((sIx items.size 0 lo:Nat):Int) == 0 && (1:Int) == 1 && (sIx items.size items.size hi - sIx items.size 0 lo) == items.size)=true):=by
  intro q
  rw [Co,Co] at q
  have q1:((sIx items.size 0 lo:Nat):Int)=0:=eq_of_beq q.1.1
  have q2:sIx items.size items.size hi - sIx items.size 0 lo=items.size:=eq_of_beq q.2
  exact hw ⟨by omega,by omega⟩
 show wpAny _ _ (if (((sIx items.size 0 lo:Nat):Int) == 0 && (1:Int) == 1 && (sIx items.size items.size hi - sIx items.size 0 lo) == items.size)=true then _ else _) _ _ s
 rw [if_neg hno,uN]
 first
  | exact wpAny_bind (m:=Builtin.Tuple.tupleExact _) (wpAny_newObj_type (wpAny_pure ⟨_,rfl,wpAny_pure h⟩) htake)
  | exact wpAny_bind (m:=Builtin.Tuple.tupleExact _) (wpAny_newObj_type (wpAny_bind (wpAny_pure (wpAny_pure ⟨_,rfl,wpAny_pure h⟩))) htake)
  | exact wpAny_bind (wpAny_bind (m:=Builtin.Tuple.tupleExact _) (wpAny_newObj_type (wpAny_pure (wpAny_pure ⟨_,rfl,wpAny_pure h⟩)) htake))
  | exact wpAny_bind (wpAny_bind (m:=Builtin.Tuple.tupleExact _) (wpAny_newObj_type (wpAny_pure ⟨_,rfl,wpAny_pure h⟩) htake))
end
end HT
namespace L2
open PySem PySem.Spec PyProof.Rows
abbrev TO:=St->Hp->(Option Int->Hp->Prop)->Prop
def PO (X:Cx) (e:Option Expr) (t:TO):Prop :=
 ∀ (pins:List (Addr × Obj)) (s:Shared) (σ:St) (H:Hp) (Q:Option Int->Hp->Prop),Inv X pins σ H s->t σ H Q →
  wpAny (model X.prog X.w) X.A (evalPart e X.env) (fun u s'=>∃ o H',Inv X pins σ H' s'/\IsPart u o/\Q o H') X.xe s
def wN:TO:=fun _ H Q=>Q none H
def Ai (t:TE):TO:=fun σ H Q=>t σ H fun x H1=>∃ i,x = .int i/\Q (some i) H1
theorem intsAre_of {ns:List Int}:∀ {us:List Value},Vals (ns.map V.int) us->IntsAre us ns:=by
 induction ns with
 | nil=>intro us r; rw [DS] at r; cases r; exact .nil
 | cons n ns ih =>
  intro us r
  rw [Bj] at r
  cases r with
  | cons r1 r2 =>
   obtain ⟨t,e⟩:=r1
   subst e
   exact .cons n t (ih r2)
section
variable {X:Cx} {e:Expr} {te:TE} {lo hi:Option Expr} {tl th:TO} {pos p2:Pos}
theorem fg:PO X none wN:=by
 intro pins s σ H Q I h
 rw [evalPart_none]
 exact wpAny_pure ⟨none,H,I,.none,h⟩
theorem dz (h:PE X e te):PO X (some e) (Ai te):=by
 intro pins s σ H Q I hw
 rw [evalPart_some]
 refine thn (h pins s σ H _ I hw) fun u s1 ⟨x,H1,I1,r1,q1⟩ => ?_
 obtain ⟨i,rfl,q⟩:=q1
 obtain ⟨t,rfl⟩:=r1
 exact ⟨some i,H1,I1,.int i t,q⟩
def SlR (X:Cx) (r:V->Option Int->Option Int->Hp->VK->Prop):Prop :=
 ∀ (pins:List (Addr × Obj)) (s:Shared) (σ:St) (H:Hp) (x:V) (v vl vu:Value) (lo hi:Option Int) (sl:Addr) (Q:VK),Inv X pins σ H s->RelV x v->s.heap.IsSliceOf sl vl vu .none->IsPart vl lo->IsPart vu hi->r x lo hi H Q →
  ∃ T id,typeLookup (.type T) "__getitem__" = pure (some (.builtin id))/\s.TypeIs v T/\wpAny (model X.prog X.w) X.A (getItem v (.ref sl)) (EP X pins σ Q) X.xe s
def tSl (r:V->Option Int->Option Int->Hp->VK->Prop) (te:TE) (tl th:TO):TE:=fun σ H Q=>te σ H fun x H1=>tl σ H1 fun l H2=>th σ H2 fun u H3=>r x l u H3 Q
theorem dg {r:V->Option Int->Option Int->Hp->VK->Prop} (hr:SlR X r) (he:PE X e te) (hl:PO X lo tl) (hu:PO X hi th):PE X (.Subscript e (.Slice lo hi none p2) pos) (tSl r te tl th):=by
 intro pins s σ H Q I h
 refine Subscript_ (thn (he pins s σ H _ I h) fun v s1 ⟨x,H1,I1,r1,q1⟩ => ?_)
 refine wpAny_Slice (thn (hl pins s1 σ H1 _ I1 q1) fun vl s2 ⟨l,H2,I2,pl,q2⟩=>thn (hu pins s2 σ H2 _ I2 q2) fun vu s3 ⟨u,H3,I3,pu,q3⟩ => ?_)
 rw [evalPart_none]
 refine wpAny_pure ?_
 have I4:Inv X pins σ H3 { s3 with heap:=s3.heap.push { cls := .type "slice",data := .fields #[vl,vu,.none] } }:=I3.kept (t':=s3.toks) fun b ob q=>AN _ q
 obtain ⟨T,id,hT,ht,hg⟩:=hr pins { s3 with heap:=s3.heap.push { cls := .type "slice",data := .fields #[vl,vu,.none] } } σ H3 x v vl vu l u s3.heap.objs.size Q I4 r1 (Hi ..) pl pu q3
 show wpAny (model X.prog X.w) X.A (subscriptTail e (.Slice lo hi none p2) v (.ref s3.heap.objs.size)) (EP X pins σ Q) X.xe { s3 with heap:=s3.heap.push { cls := .type "slice",data := .fields #[vl,vu,.none] } }
 exact tail_any (ops:=[.ref s3.heap.objs.size,v]) ht hT hg (by with_unfolding_all rfl)
def fD (xs:List V) (lo hi:Option Int):List V:=(xs.drop (HT.sIx xs.length 0 lo)).take (HT.sIx xs.length xs.length hi - HT.sIx xs.length 0 lo)
theorem ji (xs:List V) (lo hi:Option Int):(fD xs lo hi).length<=xs.length:=by
 unfold fD
 rw [BL,BS]
 omega
def rSlT (K:PySem.W.Frag):V->Option Int->Option Int->Hp->VK->Prop:=fun x lo hi H Q=>∃ a xs,x = .ref a/\SqT K H a xs ∧
 ¬ (HT.sIx xs.length 0 lo=0/\HT.sIx xs.length xs.length hi=xs.length)/\∀ p,H p=none->Q (.ref p) (upd H p (.tup (fD xs lo hi)))
theorem yZ:SlR X (rSlT X.K):=by
 intro pins s σ H x v vl vu lo hi sl Q I rx hs pl pu h
 obtain ⟨a,xs,rfl,hx,hw,q⟩:=h
 cases rx
 obtain ⟨its,r,ht,hz⟩:=I.tuple hx
 have hlen:its.toArray.size=xs.length:=by rw [AR]; exact r.length.symm
 refine ⟨"tuple",_,BI.lookup,ht.typeIs,?_⟩
 refine HT.h9 ht hs pl pu (by rw [hlen]; exact hw) ?_ (by rw [hlen]; exact hz)
 rw [hlen]
 refine ⟨.ref s.heap.objs.size,_,I.laid (t':=s.toks) (o := .tup (fD xs lo hi)) (fun b ob q=>AN _ q) (AS _) ?_,rfl,q _ (I.hok.fresh (AS _))⟩
 exact ⟨BF (ji xs lo hi) hz,_,(r.drop (HT.sIx xs.length 0 lo)).take (HT.sIx xs.length xs.length hi - HT.sIx xs.length 0 lo),d0.new _ _⟩
def Aj (K:PySem.W.Frag):R2:=fun x y H Q=>∃ a b xs ys,x = .ref a/\y = .ref b/\SqT K H a xs/\SqT K H b ys/\xs ≠ []/\xs.length + ys.length<=sizeLine ∧
 (ys=[]->Q (.ref a) H)/\(ys ≠ []->∀ p,H p=none->Q (.ref p) (upd H p (.tup (xs ++ ys))))
theorem Vals.jB {xs:List V} {us:List Value} (r:Vals xs us):us=[] ↔ xs=[]:=by
 cases r with
 | nil=>simp
 | cons _ _=>simp
theorem wO:OpR X (binaryOp .Add) (Aj X.K):=by
 intro pins s σ H x y v u Q I rx ry h
 obtain ⟨a,b,xs,ys,rfl,rfl,ha,hb,hx,hz,q1,q2⟩:=h
 cases rx
 cases ry
 obtain ⟨its,r1,p1,_⟩:=I.tuple ha
 obtain ⟨its2,r2,p2,_⟩:=I.tuple hb
 refine HT.wM p1 p2 (fun z=>hx (r1.jB.mp z)) (fun z=>⟨.ref a,H,I,rfl,q1 (r2.jB.mp z)⟩) (fun z => ?_) (by rw [<- r1.length, <- r2.length]; exact hz)
 refine ⟨.ref s.heap.objs.size,_,I.laid (t':=s.toks) (o := .tup (xs ++ ys)) (fun b ob q=>AN _ q) (AS _) ?_,rfl,q2 (fun w=>z (r2.jB.mpr w)) _ (I.hok.fresh (AS _))⟩
 exact ⟨by rw [AQ]; exact hz,_,r1.append r2,d0.new _ _⟩
end
open PySem PySem.Spec PyProof.Rows
def ixN (n:Nat) (i:Int):Option Nat:=if 0<=i then (if i < n then some i.toNat else none) else if -(n:Int)<=i then some (i + n).toNat else none
def atI {α : Type} (xs:List α) (i:Int):Option α := (ixN xs.length i).bind fun j=>xs[j]?
theorem rH {n:Nat} {i:Int} {j:Nat} (h:ixN n i=some j):seqIndex? i n=some j/\j < n /\ -(n:Int)<=i/\i < n:=by
 unfold ixN at h
 by_cases h0:0<=i
 ·rw [if_pos h0] at h
  by_cases h1:i < n
  ·rw [if_pos h1] at h
   have e:i.toNat=j:=Bb h
   exact ⟨by rw [seqIndex_of h0 h1,e],by omega,by omega,h1⟩
  ·rw [if_neg h1] at h; cases h
 ·rw [if_neg h0] at h
  by_cases h1 : -(n:Int)<=i
  ·rw [if_pos h1] at h
   have e:(i + n).toNat=j:=Bb h
   exact ⟨by rw [seqIndex_neg (by omega) h1,e],by omega,h1,by omega⟩
  ·rw [if_neg h1] at h; cases h
theorem rJ {α : Type} {xs:List α} {i:Int} {v : α} (h:atI xs i=some v):∃ j,seqIndex? i xs.length=some j/\xs[j]? = some v/\j < xs.length /\ -(xs.length:Int)<=i/\i < xs.length:=by
 unfold atI at h
 cases e:ixN xs.length i with
 | none=>rw [e] at h; cases h
 | some j =>
  rw [e] at h
  obtain ⟨h1,h2,h3,h4⟩:=rH e
  exact ⟨j,h1,h,h2,h3,h4⟩
theorem cG {α : Type} {xs:List α} {j:Nat} {v : α} (h:xs[j]? = some v):atI xs (j:Int)=some v:=by
 have hj:j < xs.length:=(AU.mp h).1
 have e:ixN xs.length (j:Int)=some j:=by
  unfold ixN
  rw [if_pos (by omega),if_pos (by omega)]; simp
 unfold atI; rw [e]; exact h
def wQ (b:Expr):Prop:=∀ o i,subscripted b false o i=operate [o,i] (getItem o i)
def IxR (X:Cx) (r:R2):Prop :=
 ∀ (value slice:Expr) (pins:List (Addr × Obj)) (s:Shared) (σ:St) (H:Hp) (x y:V) (v u:Value) (Q:VK),Inv X pins σ H s->RelV x v->RelV y u->r x y H Q →
  subscripted slice false v u=operate [v,u] (getItem v u)->wpAny (model X.prog X.w) X.A (subscriptTail value slice v u) (EP X pins σ Q) X.xe s
def MtR (X:Cx) (id:String) (r:V->List V->Hp->VK->Prop):Prop :=
 ∀ (pins:List (Addr × Obj)) (s:Shared) (σ:St) (H:Hp) (x:V) (xs:List V) (v:Value) (us:List Value) (Q:VK),Inv X pins σ H s->RelV x v->Vals xs us->r x xs H Q →
  wpAny (model X.prog X.w) X.A (call (.builtin id) (v :: us)) (EP X pins σ Q) X.xe s
section
variable {X:Cx} {a b:Expr} {ta tb:TE} {pos:Pos}
theorem aN {r:R2} (hr:IxR X r) (ha:PE X a ta) (hb:PE X b tb) (hs:wQ b):PE X (.Subscript a b pos) (tOp r ta tb):=by
 intro pins s σ H Q I h
 exact Subscript_ (yQ ha hb I h fun v u s2 x y H2 I2 rx ry q=>hr a b pins s2 σ H2 x y v u Q I2 rx ry q (hs _ _))
def Ak (K:PySem.W.Frag):R2:=fun x y H Q=>∃ p xs i v,x = .ref p/\y = .int i/\SqL K H p xs/\atI xs i=some v/\Q v H
def Am (K:PySem.W.Frag):R2:=fun x y H Q=>∃ p xs i v,x = .ref p/\y = .int i/\SqT K H p xs/\atI xs i=some v/\Q v H
theorem cH:IxR X (Ak X.K):=by
 intro value slice pins s σ H x y v u Q I rx ry h hs
 obtain ⟨p,xs,i,z,rfl,rfl,hq,he,q⟩:=h
 cases rx
 obtain ⟨t,rfl⟩:=ry
 obtain ⟨its,r,pl,hz⟩:=I.list hq
 obtain ⟨j,h1,h2,h3,h4,h5⟩:=rJ he
 obtain ⟨w,ew,rw'⟩:=r.get h2
 have hl:=r.length
 have hn:=iN
 have fin:EP X pins σ Q w s:=⟨z,H,I,rw',q⟩
 by_cases h0:0<=i
 ·have hj:i.toNat=j:=by
   rw [seqIndex_of h0 h5] at h1
   exact Bb h1
  exact item_listR pl.isList h0 (by omega) (by rw [hj]; simpa using ew) fin hs
 ·have hj:(i + (its.toArray.size:Int)).toNat=j:=by
   rw [seqIndex_neg (by omega) h4] at h1
   rw [AR, <- hl]
   exact Bb h1
  exact subscriptTail_builtinR (x:=w) pl.isList.typeIs slot_list_getitem.lookup
   (wpAny_getItem_list_neg (Q:=fun r s'=>r=w/\EP X pins σ Q r s') pl.isList (by omega) (by rw [AR] <;> omega) (by omega) (by rw [hj]; simpa using ew) ⟨rfl,fin⟩) hs
theorem aM:IxR X (Am X.K):=by
 intro value slice pins s σ H x y v u Q I rx ry h hs
 obtain ⟨p,xs,i,z,rfl,rfl,hq,he,q⟩:=h
 cases rx
 obtain ⟨t,rfl⟩:=ry
 obtain ⟨its,r,pl,hz⟩:=I.tuple hq
 obtain ⟨j,h1,h2,h3,h4,h5⟩:=rJ he
 obtain ⟨w,ew,rw'⟩:=r.get h2
 have hl:=r.length
 have hn:=iN
 have fin:EP X pins σ Q w s:=⟨z,H,I,rw',q⟩
 exact subscriptTail_builtinR (x:=w) pl.typeIs slot_tuple_getitem.lookup
  (getItem_tuple (j:=j) (Q:=fun r s'=>r=w/\EP X pins σ Q r s') pl (by omega) (by omega) (by rw [AR, <- hl]; exact h1) (by simpa using ew) ⟨rfl,fin⟩) hs
theorem qr (its:List Value) (n j:Nat) (u:Value):Obj.mapSeq (·.setIfInBounds j u) { cls := .type "list",data := .seq its.toArray n }={ cls := .type "list",data := .seq (its.set j u).toArray n }:=by
 simp [Obj.mapSeq]
theorem Inv.lst {pins:List (Addr × Obj)} {σ:St} {H:Hp} {s:Shared} {p:Addr} {xs:List V} (I:Inv X pins σ H s) (h:H p=some (.lst xs)) :
  ∃ (its:List Value) (n:Nat),Vals xs its/\s.heap.get? p=some { cls := .type "list",data := .seq its.toArray n }/\xs.length<=sizeLine:=by
 obtain ⟨z,its,n,r,e⟩:=I.hok p _ h
 exact ⟨its,n,r,e,z⟩
theorem Inv.y6 {pins:List (Addr × Obj)} {σ:St} {H:Hp} {s:Shared} {p:Addr} {xs ys:List V} {its its':List Value} {n n':Nat} {f:Obj->Obj} (I:Inv X pins σ H s) (h:H p=some (.lst xs))
  (ho:s.heap.get? p=some { cls := .type "list",data := .seq its.toArray n }) (hf:f { cls := .type "list",data := .seq its.toArray n }={ cls := .type "list",data := .seq its'.toArray n' }) (r:Vals ys its') (hz:ys.length<=sizeLine) (t:Nat) :
  Inv X pins σ (upd H p (.lst ys)) { s with heap:=s.heap.update p f,toks:=t }:=by
 have e:(s.heap.update p f).get? p=some { cls := .type "list",data := .seq its'.toArray n' }:=by
  rw [Bv f ho (by rw [hf] <;> rfl),hf]
 refine I.write (x:=p) (e:=p) (by rw [h]; trivial) (.inl rfl) (fun b u hb q=>(Bd _ _ (BN hb)).trans q) ⟨_,e⟩ ?_
 exact ⟨hz,its',n',r,e⟩
def An:V->V->V->Hp->(Hp->Prop)->Prop:=fun o i v H Q=>∃ p xs k j,o = .ref p/\i = .int k/\H p=some (.lst xs)/\ixN xs.length k=some j/\Q (upd H p (.lst (xs.set j v)))
theorem set_list:yM X An:=by
 intro pins s σ H o i v ov iv u Q I ro ri rv h
 obtain ⟨p,xs,k,j,rfl,rfl,hp,hj,q⟩:=h
 cases ro
 obtain ⟨t,rfl⟩:=ri
 obtain ⟨its,n,r,ho,hz⟩:=I.lst hp
 obtain ⟨h1,h2,h3,h4⟩:=rH hj
 have hl:=r.length
 have hn:=iN
 have I':Inv X pins σ (upd H p (.lst (xs.set j v))) { s with heap:=s.heap.update p (Obj.mapSeq (·.setIfInBounds j u)) } :=
  I.y6 hp ho (qr its n j u) (r.set rv j) (by rw [C7]; exact hz) s.toks
 by_cases h0:0<=k
 ·have hk:k.toNat=j:=by
   rw [seqIndex_of h0 h4] at h1
   exact Bb h1
  exact PySem.W.ki_setAt ho h0 (by omega) (by rw [AR, <- hl]; exact h4) (by rw [hk]; exact ⟨_,I',q⟩)
 ·have hk:(k + (its.toArray.size:Int)).toNat=j:=by
   rw [seqIndex_neg (by omega) h3] at h1
   rw [AR, <- hl]
   exact Bb h1
  exact PySem.W.ki_setBack ho (by omega) (by rw [AR, <- hl]; exact h3) (by omega) (by rw [hk]; exact ⟨_,I',q⟩)
theorem nB (lo hi:Option Int) (n:Nat):(sliceBounds lo hi none n).1=((HT.sIx n 0 lo:Nat):Int)/\(sliceBounds lo hi none n).2.1=((HT.sIx n n hi:Nat):Int)/\(sliceBounds lo hi none n).2.2=1:=by
 refine ⟨?_,?_,rfl⟩
 ·cases lo with
  | none=>simp [sliceBounds,HT.sIx]
  | some i =>
   simp only [sliceBounds,HT.sIx,Gw,show (1:Int) > 0 by decide,if_true]
   by_cases h:i < 0
   ·simp only [h,if_true] <;> omega
   ·simp only [h,if_false] <;> omega
 ·cases hi with
  | none=>simp [sliceBounds,HT.sIx]
  | some i =>
   simp only [sliceBounds,HT.sIx,Gw,show (1:Int) > 0 by decide,if_true]
   by_cases h:i < 0
   ·simp only [h,if_true] <;> omega
   ·simp only [h,if_false] <;> omega
theorem lC (its:List Value) (lo hi:Option Int):slicePick its.toArray lo hi none=((its.drop (HT.sIx its.length 0 lo)).take (HT.sIx its.length its.length hi - HT.sIx its.length 0 lo)).toArray:=by
 obtain ⟨h1,h2,h3⟩:=nB lo hi its.toArray.size
 unfold slicePick
 rw [h1,h2,h3]
 simp only [sliceRange_one,pick_run,AR] <;> rfl
def rSlL (K:PySem.W.Frag):V->Option Int->Option Int->Hp->VK->Prop:=fun x lo hi H Q=>∃ a xs,x = .ref a/\SqL K H a xs/\∀ p,H p=none->Q (.ref p) (upd H p (.lst (fD xs lo hi)))
theorem rK:SlR X (rSlL X.K):=by
 intro pins s σ H x v vl vu lo hi sl Q I rx hs pl pu h
 obtain ⟨a,xs,rfl,hx,q⟩:=h
 cases rx
 obtain ⟨its,r,ht,hz⟩:=I.list hx
 have hlen:=r.length
 refine ⟨"list",_,slot_list_getitem.lookup,ht.isList.typeIs,?_⟩
 refine wpAny_getItem_list_slice ht.isList hs pl pu .none (by simp) ?_ (by rw [AR] <;> omega)
 rw [lC, <- hlen]
 refine ⟨.ref s.heap.objs.size,_,I.laid (t':=s.toks) (o := .lst (fD xs lo hi)) (fun b ob q=>AN _ q) (AS _) ?_,rfl,q _ (I.hok.fresh (AS _))⟩
 exact ⟨BF (ji xs lo hi) hz,_,0,(r.drop (HT.sIx xs.length 0 lo)).take (HT.sIx xs.length xs.length hi - HT.sIx xs.length 0 lo),A0 _ rfl⟩
theorem ba:bJ X (.builtin "len") (fun xs H Q=>∃ p ys,xs=[.ref p]/\(SqL X.K H p ys\/SqT X.K H p ys)/\Q (.int ys.length) H):=by
 intro pins s σ H xs us Q I r h
 obtain ⟨p,ys,rfl,hq,q⟩:=h
 obtain ⟨u,rfl,rx⟩:=vals1 r
 cases rx
 have hn:=iN
 rcases hq with hq | hq
 ·obtain ⟨its,r',pl,hz⟩:=I.list hq
  have hlen:=r'.length
  exact Calls.call_len_list pl.isList (by simp only [AR] <;> omega) ⟨.int ys.length,H,I.tok _,⟨s.toks + 1,by rw [AR,hlen]⟩,q⟩
 ·obtain ⟨its,r',pl,hz⟩:=I.tuple hq
  have hlen:=r'.length
  exact len_tuple pl (by simp only [AR] <;> omega) ⟨.int ys.length,H,I.tok _,⟨s.toks + 1,by rw [AR,hlen]⟩,q⟩
theorem cR:bJ X (.type "list") (fun xs H Q=>∃ p ys,xs=[.ref p]/\(SqL X.K H p ys\/SqT X.K H p ys)/\∀ l,H l=none->Q (.ref l) (upd H l (.lst ys))):=by
 intro pins s σ H xs us Q I r h
 obtain ⟨p,ys,rfl,hq,q⟩:=h
 obtain ⟨u,rfl,rx⟩:=vals1 r
 cases rx
 have fin:∀ (its:List Value),Vals ys its->ys.length<=sizeLine->∀ (h':Heap) (c':Nat),(∀ b o',s.heap.get? b=some o'->h'.get? b=some o') →
   h'.get? s.heap.objs.size=some { cls := .type "list",dict:=none,data := .seq its.toArray c',slots := #[] }->EP X pins σ Q (.ref s.heap.objs.size) { s with heap:=h' }:=fun its r' hz h' c' kp e =>
  ⟨.ref s.heap.objs.size,_,I.laid (t':=s.toks) kp (AS _) (show bA X.prog X.w _ h' _ (.lst ys) from ⟨hz,its,c',r',e⟩),rfl,q _ (I.hok.fresh (AS _))⟩
 rcases hq with hq | hq
 ·obtain ⟨its,r',pl,hz⟩:=I.list hq
  have hlen:=r'.length
  obtain ⟨o,ho,hc,n,hd⟩:=pl.isList
  exact call_list_seq p (.inl rfl) ho hc hd (fun h' c' kp e=>fin its r' hz h' c' kp e) (by simp only [AR] <;> omega)
 ·obtain ⟨its,r',pl,hz⟩:=I.tuple hq
  have hlen:=r'.length
  obtain ⟨o,ho,hc,n,hd⟩:=pl
  exact call_list_seq p (.inr rfl) ho hc hd (fun h' c' kp e=>fin its r' hz h' c' kp e) (by simp only [AR] <;> omega)
theorem bB:bJ X (.type "tuple") (fun xs H Q=>∃ p ys,xs=[.ref p]/\((SqL X.K H p ys/\∀ l,H l=none->Q (.ref l) (upd H l (.tup ys)))\/(SqT X.K H p ys/\Q (.ref p) H))):=by
 intro pins s σ H xs us Q I r h
 obtain ⟨p,ys,rfl,h⟩:=h
 obtain ⟨u,rfl,rx⟩:=vals1 r
 cases rx
 rcases h with ⟨hq,q⟩ | ⟨hq,q⟩
 ·obtain ⟨its,r',pl,hz⟩:=I.list hq
  have hlen:=r'.length
  refine call_tuple_list pl.isList (fun h' kp => ?_) (by simp only [AR] <;> omega)
  have I1:Inv X pins σ H { s with heap:=h' }:=I.kept (t':=s.toks) kp
  have I2:Inv X pins σ (upd H h'.objs.size (.tup ys)) { s with heap:=h'.push { cls := .type "tuple",data := .seq its.toArray } } :=
   I1.laid (t':=s.toks) (fun b o e=>AN _ e) (AS _) (show bA X.prog X.w _ _ _ (.tup ys) from ⟨hz,its,r',d0.new _ _⟩)
  exact ⟨.ref h'.objs.size,_,I2,rfl,q _ (I1.hok.fresh (AS _))⟩
 ·obtain ⟨its,r',pl,hz⟩:=I.tuple hq
  exact call_tuple_same pl ⟨.ref p,H,I,rfl,q⟩
def tyV (K:PySem.W.Frag) (T:String) (x:V) (H:Hp):Prop:=match x with
 | .str _=>T = "str"
 | .int _=>T = "int"
 | .ref p=>(T = "list" /\ ∃ xs,SqL K H p xs)\/(T = "tuple" /\ ∃ o,K.lookup p=some o/\o.cls = .type "tuple" /\ o.dict=none) ∨
   (T = "dict" /\ ((∃ kvs,H p=some (.dK kvs))\/∃ kvs,H p=some (.dT kvs)))\/(T = "set" /\ ∃ S n,H p=some (.set S n))
 | _=>False
theorem uO {pins:List (Addr × Obj)} {σ:St} {H:Hp} {s:Shared} {T:String} {x:V} {v:Value} (I:Inv X pins σ H s) (r:RelV x v) (ty:tyV X.K T x H) :
  s.TypeIs v T/\∀ a,v = .ref a->∃ ob,s.heap.get? a=some ob/\ob.dict=none:=by
 cases x with
 | str z =>
  obtain ⟨t,rfl⟩:=r
  cases (show T = "str" from ty)
  exact ⟨typeIs_str s z t,fun _ e=>nomatch e⟩
 | int i =>
  obtain ⟨t,rfl⟩:=r
  cases (show T = "int" from ty)
  exact ⟨typeIs_int s i t,fun _ e=>nomatch e⟩
 | ref p =>
  cases r
  rcases ty with ⟨rfl,xs,hq⟩ | ⟨rfl,o,hk,hc,hd⟩ | ⟨rfl,hk⟩ | ⟨rfl,S,n,hk⟩
  ·obtain ⟨its,_,pl,_⟩:=I.list hq
   refine ⟨pl.isList.typeIs,fun a e => ?_⟩
   cases e
   obtain ⟨o,n,e,c,hd,_⟩:=pl
   exact ⟨o,e,hd⟩
  ·refine ⟨⟨o,I.kIn p o hk,hc⟩,fun a e => ?_⟩
   cases e
   exact ⟨o,I.kIn _ o hk,hd⟩
  ·have z:∃ o,s.heap.get? p=some o/\o.ExactDict:=by
    rcases hk with ⟨kvs,hk⟩ | ⟨kvs,hk⟩
    ·obtain ⟨_,_,_,_,o,_,_,e,ex,_⟩:=I.hok p _ hk
     exact ⟨o,e,ex⟩
    ·obtain ⟨_,_,_,_,o,_,_,e,ex,_⟩:=I.hok p _ hk
     exact ⟨o,e,ex⟩
   obtain ⟨o,e,ex⟩:=z
   refine ⟨⟨o,e,ex.1⟩,fun a e2 => ?_⟩
   cases e2
   exact ⟨o,e,ex.2.1⟩
  ·obtain ⟨o,_,_,_,e,ex,_⟩:=I.hok p _ hk
   refine ⟨⟨o,e,ex.1⟩,fun a e2 => ?_⟩
   cases e2
   exact ⟨o,e,ex.2.1⟩
 | _=>exact False.elim ty
def tBM0 (K:PySem.W.Frag) (T:String) (r:V->List V->Hp->VK->Prop) (to:TE):TE:=fun σ H Q=>to σ H fun x H1=>tyV K T x H1/\r x [] H1 Q
def tBM (K:PySem.W.Frag) (T:String) (r:V->List V->Hp->VK->Prop) (to:TE) (t:TA):TE:=fun σ H Q=>to σ H fun x H1=>tyV K T x H1/\t σ H1 fun xs H2=>r x xs H2 Q
variable {o e:Expr} {es:List Expr} {to:TE} {t:TA} {name:Str} {apos cpos:Pos} {T id:String} {r:V->List V->Hp->VK->Prop}
theorem y7 (pa:PlainAttrs T) (slot:Slot T name id) (hty:typeOf (.builtin id)=pure (.type "method_descriptor")) (hm:MtR X id r) (ho:PE X o to)
  (hbase:attributeBase o name X.env (eval o X.env)=eval o X.env:=by rfl) (hline:(apos.endLine == cpos.line)=true:=by rfl):PE X (.Call (.Attribute o name apos) [] [] cpos) (tBM0 X.K T r to):=by
 intro pins s σ H Q I h
 refine wpAny_Call_method0_late hbase hline (thn (ho pins s σ H _ I h) fun v s1 ⟨x,H1,I1,r1,ty,q1⟩ => ?_)
 obtain ⟨h1,h2⟩:=uO I1 r1 ty
 exact ⟨T,id,pa,slot,hty,h1,h2,Ea rfl (PySem.evalArgs_none (hm pins s1 σ H1 x [] v [] Q I1 r1 .nil q1))⟩
theorem dy (pa:PlainAttrs T) (slot:Slot T name id) (hty:typeOf (.builtin id)=pure (.type "method_descriptor")) (hm:MtR X id r) (ho:PE X o to) (ha:PA X (e :: es) t)
  (hbase:attributeBase o name X.env (eval o X.env)=eval o X.env:=by rfl)
  (hfew:((backTo cpos (starEach (e :: es) X.env)).all (fun x => !x.1) && (backToKw cpos (keywordEach [] X.env)).all (fun x=>x.1.isSome)
   && decide ((e :: es).length + ([]:List Keyword).length + (if ([]:List Keyword).isEmpty then 0 else 1) < 30))=true:=by rfl)
  (hline:(apos.endLine == cpos.line)=true:=by rfl) (hs:starEach (e :: es) X.env=(false,eval e X.env) :: starEach es X.env:=by rfl) (hplain:(backTo cpos (starEach es X.env)).any (·.1)=false:=by rfl) :
  PE X (.Call (.Attribute o name apos) (e :: es) [] cpos) (tBM X.K T r to t):=by
 intro pins s σ H Q I h
 refine wpAny_Call_method_late hbase hfew hline rfl (thn (ho pins s σ H _ I h) fun v s1 ⟨x,H1,I1,r1,ty,q1⟩ => ?_)
 obtain ⟨h1,h2⟩:=uO I1 r1 ty
 refine ⟨T,id,pa,slot,hty,h1,h2,?_⟩
 have hA:=ha cpos pins s1 σ H1 _ I1 q1
 rw [hs] at hA ⊢
 refine Ea (by show (false || (backTo cpos (starEach es X.env)).any (·.1))=false; rw [hplain] <;> rfl) (FH ?_)
 exact thn hA fun us s2 ⟨vs,H2,I2,r2,q2⟩=>hm pins s2 σ H2 x vs v us Q I2 r1 r2 q2
end
open PySem PySem.Spec PyProof.Rows
def MtM (X:Cx) (id:String) (r:V->List V->Hp->VK->Prop):Prop :=
 ∀ (pins:List (Addr × Obj)) (s:Shared) (σ:St) (H:Hp) (x:V) (xs:List V) (v:Value) (us:List Value) (Q:VK),Inv X pins σ H s->RelV x v->Vals xs us->r x xs H Q →
  wpAny (model X.prog X.w) X.A (call (.builtin id) (v :: us)) (EP X pins σ Q) X.xe s
theorem Vals.one:∀ {x:V} {us:List Value},Vals [x] us->∃ u,us=[u]/\RelV x u
 | _,_,.cons r .nil=>⟨_,rfl,r⟩
theorem Vals.zero:∀ {us:List Value},Vals [] us->us=[]
 | _,.nil=>rfl
theorem Vals.dropLast {xs:List V} {us:List Value} (h:Vals xs us):Vals xs.dropLast us.dropLast:=by
 induction h with
 | nil=>exact .nil
 | cons r t ih =>
  cases t with
  | nil=>exact .nil
  | cons q t'=>exact .cons r ih
theorem Vals.eraseIdx:∀ {xs:List V} {us:List Value} (i:Nat),Vals xs us->Vals (xs.eraseIdx i) (us.eraseIdx i)
 | _,_,_,.nil => .nil
 | _,_,0,.cons _ t=>t
 | _,_,i + 1,.cons r t => .cons r (Vals.eraseIdx i t)
theorem Vals.rep {xs:List V} {us:List Value} (h:Vals xs us):∀ k:Nat,Vals (List.replicate k xs).flatten (List.replicate k us).flatten
 | 0 => .nil
 | k + 1=>by
  rw [Ct,Ct,Cu,Cu]
  exact Vals.append h (Vals.rep h k)
theorem qu {α : Type} (l:List α):l.eraseIdx (l.length - 1)=l.dropLast:=by
 induction l with
 | nil=>rfl
 | cons a r ih =>
  cases r with
  | nil=>rfl
  | cons b r =>
   have e:(a :: b :: r).length - 1=((b :: r).length - 1) + 1:=by
    have h1:(a :: b :: r).length=r.length + 2:=rfl
    have h2:(b :: r).length=r.length + 1:=rfl
    omega
   rw [e,D5,ih]
   all_goals rfl
theorem lU {α : Type}:∀ (l:List α) (i:Nat),(l.eraseIdx i).length<=l.length
 | [],_=>AS _
 | _ :: _,0=>EC _
 | _ :: r,i + 1=>Fi (lU r i)
theorem foldl_rep (its:List Value):∀ (k:Nat) (acc:List Value),
  List.foldl (fun x1 x2=>x1 ++ x2) acc.toArray (List.replicate k its.toArray)=(acc ++ (List.replicate k its).flatten).toArray
 | 0,acc=>by simp
 | k + 1,acc=>by
  have e:acc.toArray ++ its.toArray=(acc ++ its).toArray:=by simp
  have e2:(acc ++ its) ++ (List.replicate k its).flatten=acc ++ (List.replicate (k + 1) its).flatten:=by
   rw [Ct,Cu,Bo]
  rw [<- e2, <- foldl_rep its k (acc ++ its), <- e,Ct,Fv]
section
variable {X:Cx} {pins:List (Addr × Obj)} {σ:St} {H:Hp} {s:Shared} {l b:Addr} {xs ys zs:List V}
theorem Inv.wR {its its':List Value} {n:Nat} {f:Array Value->Array Value} {t':Nat} (I:Inv X pins σ H s) (hH:H l=some (.lst xs))
  (e:s.heap.get? l=some { cls := .type "list",data := .seq its.toArray n }) (hf:f its.toArray=its'.toArray) (hv:Vals ys its') (hz:ys.length<=sizeLine) :
  Inv X pins σ (upd H l (.lst ys)) { s with heap:=s.heap.update l (Obj.mapSeq f),toks:=t' }:=by
 have q:=PySem.IsL.update e f
 rw [hf] at q
 refine I.write (x:=l) (e:=l) (by rw [hH]; exact trivial) (.inl rfl) (fun b' u hb hu=>(Bd s.heap (Obj.mapSeq f) (BN hb)).trans hu) ⟨_,q⟩ ?_
 exact ⟨hz,its',_,hv,q⟩
theorem Inv.Ao {its:List Value} {t':Nat} (I:Inv X pins σ H s) (hv:Vals ys its) (hz:ys.length<=sizeLine) :
  Inv X pins σ (upd H s.heap.objs.size (.lst ys)) { s with heap:=s.heap.push { cls := .type "list",data := .seq its.toArray },toks:=t' } :=
 I.laid (fun _ _ q=>AN _ q) (AS _) ⟨hz,its,0,hv,A0 _ rfl⟩
theorem Inv.fresh (I:Inv X pins σ H s):H s.heap.objs.size=none:=I.hok.fresh (AS _)
theorem Inv.sV (I:Inv X pins σ H s) (hH:H l=some (.lst xs)):xs.length<=sizeLine/\∃ (its:List Value) (n:Nat),Vals xs its/\xs.length=its.length/\s.heap.get? l=some { cls := .type "list",data := .seq its.toArray n }:=by
 obtain ⟨z,its,n,r,e⟩:=I.hok l _ hH
 exact ⟨z,its,n,r,r.length,e⟩
theorem jW {n:Nat} (h:n<=sizeLine):Builtin.List.listTooLong n=false:=by
 unfold Builtin.List.listTooLong
 exact decide_eq_false (by omega)
end
section
variable {X:Cx}
def wU:V->List V->Hp->VK->Prop:=fun x vs H Q=>∃ l xs y,x = .ref l/\vs=[y]/\H l=some (.lst xs)/\xs.length < sizeLine/\Q .non (upd H l (.lst (xs ++ [y])))
theorem bT:MtM X "list.append" wU:=by
 intro pins s σ H x vs v us Q I rx rv h
 obtain ⟨l,xs,y,rfl,rfl,hH,hz,q⟩:=h
 cases rx
 obtain ⟨u,rfl,ru⟩:=rv.one
 obtain ⟨z,its,n,r,hl,e⟩:=I.sV hH
 refine call_meets F.slot_list_append ⟨_,e,rfl⟩ F.entry_list_append (F.args_list_append_2 _ _) (PySem.list_append l its.toArray n u (by rw [AR]; omega)) ⟨e,?_⟩
 refine ⟨.non,_,I.wR (its':=its ++ [u]) hH e (by simp) (r.append (.cons ru .nil)) ?_,rfl,q⟩
 rw [AQ,BV]
 omega
def wV:V->List V->Hp->VK->Prop:=fun x vs H Q=>∃ l b xs zs,x = .ref l/\vs=[.ref b]/\H l=some (.lst xs)/\H b=some (.lst zs)/\xs.length + zs.length<=sizeLine/\Q .non (upd H l (.lst (xs ++ zs)))
theorem iP:MtM X "list.extend" wV:=by
 intro pins s σ H x vs v us Q I rx rv h
 obtain ⟨l,b,xs,zs,rfl,rfl,hH,hB,hz,q⟩:=h
 cases rx
 obtain ⟨u,rfl,ru⟩:=rv.one
 cases ru
 obtain ⟨z,its,n,r,hl,e⟩:=I.sV hH
 obtain ⟨z2,its2,n2,r2,hl2,e2⟩:=I.sV hB
 have hsz:its.toArray.size + its2.toArray.size<=sizeLine:=by rw [AR,AR]; omega
 have hlong:¬ (!its.toArray.isEmpty && Builtin.List.listTooLong (its.toArray.size + its2.toArray.size))=true:=by
  rw [jW hsz,EV]
  exact A9
 refine call_meets F.slot_list_extend ⟨_,e,rfl⟩ F.entry_list_extend (F.args_list_extend_2 _ _)
  (AutoSeq1.list_extend_list_list_0 l its.toArray n b its2.toArray n2 hlong (by rw [AR]; omega) (by omega)) ⟨e,e2,?_⟩
 refine ⟨.non,_,I.wR (its':=its ++ its2) hH e (by simp) (r.append r2) ?_,rfl,q⟩
 rw [AQ]
 omega
def rPop:V->List V->Hp->VK->Prop:=fun x vs H Q=>∃ l xs y,x = .ref l/\vs=[]/\H l=some (.lst xs)/\xs[xs.length - 1]? = some y/\Q y (upd H l (.lst xs.dropLast))
theorem y8:MtM X "list.pop" rPop:=by
 intro pins s σ H x vs v us Q I rx rv h
 obtain ⟨l,xs,y,rfl,rfl,hH,hy,q⟩:=h
 cases rx
 have hus:=rv.zero
 subst hus
 obtain ⟨z,its,n,r,hl,e⟩:=I.sV hH
 obtain ⟨u,hu,ru⟩:=r.get hy
 have hy':its.toArray[its.toArray.size - 1]? = some u:=by
  show its.toArray[its.length - 1]? = some u
  rw [<- A3, <- hl]
  exact hu
 refine call_meets GK ⟨_,e,rfl⟩ Gx (F.args_list_pop_1 _) (MeetsSeq.list_pop_last l its.toArray n u hy' (by rw [AR]; omega)) ⟨e,?_⟩
 refine ⟨y,_,I.wR (its':=its.dropLast) hH e ?_ r.dropLast ?_,ru,q⟩
 ·show its.toArray.eraseIdxIfInBounds (its.toArray.size - 1)=its.dropLast.toArray
  rw [AR,Ec,qu]
 ·rw [List.length_dropLast]
  omega
def y9:V->List V->Hp->VK->Prop:=fun x vs H Q=>∃ l xs i k y,x = .ref l/\vs=[.int i]/\H l=some (.lst xs) /\ -(2 ^ 63)<=i/\i < 2 ^ 63/\seqIndex? i xs.length=some k/\xs[k]? = some y/\Q y (upd H l (.lst (xs.eraseIdx k)))
theorem oH:MtM X "list.pop" y9:=by
 intro pins s σ H x vs v us Q I rx rv h
 obtain ⟨l,xs,i,k,y,rfl,rfl,hH,h1,h2,hk,hy,q⟩:=h
 cases rx
 obtain ⟨u,rfl,ru⟩:=rv.one
 obtain ⟨t,rfl⟩:=ru
 obtain ⟨z,its,n,r,hl,e⟩:=I.sV hH
 obtain ⟨w,hw,rw'⟩:=r.get hy
 refine call_meets GK ⟨_,e,rfl⟩ Gx (F.args_list_pop_2 _ _)
  (MeetsSeq.list_pop_at l its.toArray n i t k w (fitsIndex_both h1 h2) (by rw [AR, <- hl]; exact hk) (by rw [<- A3]; exact hw) (by rw [AR]; omega)) ⟨e,?_⟩
 refine ⟨y,_,I.wR (its':=its.eraseIdx k) hH e ?_ (r.eraseIdx k) ?_,rw',q⟩
 ·show its.toArray.eraseIdxIfInBounds k=(its.eraseIdx k).toArray
  rw [Ec]
 ·have:=lU xs k
  omega
def rRep:R2:=fun x y H Q=>∃ l k xs,x = .ref l/\y = .int k/\H l=some (.lst xs) /\ -(2 ^ 63)<=k/\k < 2 ^ 63/\xs.length * k.toNat<=sizeLine ∧
 ∀ p,H p=none->Q (.ref p) (upd H p (.lst (List.replicate k.toNat xs).flatten))
theorem len_rep {α : Type} (xs:List α) (k:Nat):(List.replicate k xs).flatten.length=k * xs.length:=by
 induction k with
 | zero=>simp
 | succ k ih=>rw [Ct,Cu,AQ,ih,Nat.succ_mul,Nat.add_comm]
theorem uP:OpR X (binaryOp .Mult) rRep:=by
 intro pins s σ H x y v u Q I rx ry h
 obtain ⟨l,k,xs,rfl,rfl,hH,h1,h2,hz,q⟩:=h
 cases rx
 obtain ⟨t,rfl⟩:=ry
 obtain ⟨z,its,n,r,hl,e⟩:=I.sV hH
 have hlen:its.toArray.size * k.toNat<=sizeLine:=by rw [AR, <- hl]; exact hz
 have hcap:¬ its.toArray.size * k.toNat > (2 ^ 63 - 1) / 8:=by
  have:(sizeLine:Nat)<=(2 ^ 63 - 1) / 8:=by decide
  omega
 have hfit:¬ (!Builtin.List.listFitsIndex k)=true:=by
  rw [fitsIndex_both h1 h2]
  exact A9
 have hlong:¬ Builtin.List.listTooLong (its.toArray.size * k.toNat)=true:=by
  rw [jW hlen]
  exact A9
 have hnew:List.foldl (fun x1 x2=>x1 ++ x2) #[] (List.replicate (if its.toArray.isEmpty=true then 0 else k.toNat) its.toArray)=(List.replicate k.toNat its).flatten.toArray:=by
  have f0:∀ m:Nat,List.foldl (fun x1 x2=>x1 ++ x2) #[] (List.replicate m its.toArray)=(List.replicate m its).flatten.toArray:=fun m=>by
   have:=foldl_rep its m []
   rw [D6] at this
   exact this
  rw [f0]
  cases its with
  | nil=>simp
  | cons a r'=>rw [if_neg (by simp)]
 refine wpAny_binaryOp_repeat_ref (T := "list") (U := "int") (by decide) ⟨_,e,rfl⟩ (fun s'=>typeIs_int s' k t) noFill_list_mul F.fills_int_mul GL repeat_list F.slot_int_index.lookup
  (call_meets GL (typeIs_int s k t) F.entry_int_rmul (F.args_int_rmul_2 _ _) (int___rmul___int_list k t l its.toArray n)
   ⟨e,rfl,⟨_,e,rfl⟩,call_meets F.slot_list_mul ⟨_,e,rfl⟩ F.entry_list_mul (F.args_list_mul_2 _ _) (AutoListH.list___mul___list_int_3 l its.toArray n k t hfit hcap hlong) ⟨e,?_⟩⟩)
 rw [hnew]
 exact ⟨.ref _,_,I.Ao (t':=s.toks) (r.rep k.toNat) (by rw [len_rep,Nat.mul_comm]; exact hz),rfl,q _ I.fresh⟩
end
section
variable {prog:Program} {w:World} {A:Around} {E:Value->Shared->Prop} {s:Shared}
end
section
variable {X:Cx}
end
end L2
namespace Att
open PySem PySem.W PySem.Calls PyProof.Rows
theorem jz {P:Params} {h:Heap}:∀ (ns:List Int) (vs:List Value),WellAll P h vs (ns.map WData.int)->IntsAre vs ns:=by
 intro ns
 induction ns with
 | nil =>
  intro vs w
  rw [DS] at w
  cases w
  exact .nil
 | cons n ns ih =>
  intro vs w
  rw [Bj] at w
  cases w with
  | cons a b =>
   cases a
   exact .cons _ _ (ih _ b)
theorem sW {l:OpenLaw} {n:Nat} (hn:l.most=some n) {P:Params} {h:Heap} {args:List WData} {vals:List Value}
  (hpre:l.row.toRowW.claim.pre args=true) (hwl:WellAll P h vals args) :
  ∃ a vs ns,vals=[Value.ref a]/\args=[WData.list (ns.map WData.int)]/\h.get? a=some { cls := .type "list",data := .seq vs.toArray }/\IntsAre vs ns/\ns.length<=n:=by
 have hsh:WShape.hasAll [] args [.list .int]=true:=(pre_splitW hpre).1
 have hc:l.pre.holds [] { args:=args }=true:=(pre_splitW hpre).2
 obtain ⟨d,r,rfl,h1,h2⟩:=hasAllW_cons hsh
 obtain rfl:=hasAllW_nil h2
 obtain ⟨xs,rfl,h3⟩:=hasW_list h1
 obtain ⟨ns,rfl⟩:=items_int h3
 have hlen:ns.length<=n:=by
  unfold OpenLaw.pre at hc
  have h4:(WTm.not (.lt (.lit (.int (n:Int))) (.len (.arg 0)))).holds [] { args:=[.list (ns.map .int)] }=true:=by
   have h4:=(holds_andW hc).1
   rw [hn] at h4
   exact h4
  have h5:=condW_of h4 (w_not (w_lt w_lit (w_len_list (w_arg rfl))))
  rw [AM] at h5
  refine Es fun q => ?_
  have q':(n:Int) < ((ns.length:Nat):Int):=by omega
  first
   | (rw [decide_eq_true q'] at h5; exact absurd h5 (by decide))
   | (simp at h5; omega)
 cases hwl with
 | cons w1 w2 =>
  cases w2
  cases w1 with
  | list ho hall=>exact ⟨_,_,ns,rfl,rfl,ho,jz ns _ hall,hlen⟩
theorem sZ (l:OpenLaw) (args:List WData):l.row.toRowW.claim.post args (.bool true) args=true :=
 postW_of (r:=l.row.toRowW) (X:=(true == true))
  (show WShape.has [] (.bool true) .bool=true by first | rfl | decide | simp [WShape.has,WShape.arms,WShape.armsAll])
  (show (WTm.eq .res (.lit (.bool true))).value [] { args:=args,res:=some (.bool true),after:=args }=some (.bool (true == true)) from w_eq_bool (w_res rfl) w_lit) rfl
theorem oI {l:OpenLaw} {n:Nat} {q:Program} {loose:List Str} {XP:(Str->Option Value)->Heap->Prop} {YP:World->Heap->Prop} {d:DefRec}
  (hn:l.most=some n) (hdf:d.params.defaults=[])
  (call:∀ (w:World) (s₀ s₁:Shared) (mg mb:Str->Option Value) (fa:Addr) (o:Obj) (pm cd doc:Value) (a:Addr) (vs:List Value) (ns:List Int),
   Ground q loose [] XP w s₀ mg mb s₁.heap->YP w s₁.heap →
   s₁.heap.get? fa=some o->o.data = .func (docDef d.name d.params d.body d.scope pm cd doc)->s₁.heap.CodeRec cd d.name->mg d.name=some (.ref fa) →
   s₁.heap.get? a=some { cls := .type "list",data := .seq vs.toArray }->IntsAre vs ns->ns.length<=n->s₁.gens = #[] →
   codeAny (model l.prog w) callerA (.call (.ref fa) ⟨[.ref a],[]⟩) (fun r s'=>r = .ok (.ret (.bool true))/\OldK s₁.heap s'.heap/\s'.os=s₁.os/\AllBare s'.gens) s₁) :
  WalkO q loose XP YP l.row.toRowW d [] (fun f vs=>PySem.call f vs):=by
 intro w s₀ s₁ mg mb G Y fa o pm cd doc dV kV ho hd hcd hD hmg hg args vals as hpre hlay hrd hwl hlo
 obtain rfl:dV = .none:=Dflts.none hD hdf
 obtain rfl:kV = .none:=Dflts.noKw hD
 obtain ⟨a,vs,ns,rfl,rfl,hobj,hints,hlen⟩:=sW hn hpre hwl
 refine enter_call (codeAny_mono (call w s₀ s₁ mg mb fa o pm cd doc a vs ns G Y ho (fd_plain hd) hcd hmg hobj hints hlen hg) fun r s' hq => ?_)
 obtain ⟨rfl,h2,h3,h4⟩:=hq
 exact ⟨.inl ⟨.bool true,.bool true,[],rfl,fun _=>rfl,.bool true,sZ l _,fun _=>⟨List.Pairwise.nil,fun _ hm=>(nomatch hm)⟩⟩,h2,h3,h4⟩
section
variable {prog:Program} {w:World} {A:Around} {E:Value->Shared->Prop} {s:Shared} {K:Frag}
def ledger (h:Heap) (L d:Addr):List (Addr × Obj):=(List.range h.objs.size).filterMap fun a=>if a=L\/a=d then none else (h.get? a).map fun o=>(a,o)
end
end Att
namespace L2
open PySem PySem.Spec PyProof.Rows
theorem iQ:∀ {vs:List Value} {ns:List Int},IntsAre vs ns->Vals (ns.map V.int) vs
 | _,_,.nil => .nil
 | _,_,.cons n t h => .cons ⟨t,rfl⟩ (iQ h)
def zc (H:Hp):Prop:=∀ b,H b=none\/∃ o xs,H b=some (.frz o (.lst xs))
theorem uQ {P:Program} {w:World} {K:PySem.W.Frag} {mg mb:Str->Option Value} {CX:CXT} {k:Nat} {fa a:Addr} {fd:FuncData} {x:Str} {sp:Sp} {s₁:Shared} {vs:List Value} {ns:List Int}
  (KX:K.In s₁.heap) (hns:s₁.heap.Ns mainGlobals mg) (hb:s₁.heap.Ns builtinsNs mb) (hbb:∀ x:Str,x ≠ "__name__" -> mb x=bootBuiltins x) (hlim:s₁.heap.NoLimit) (hg:s₁.gens = #[])
  (ha:s₁.heap.get? a=some { cls := .type "list",data := .seq vs.toArray }) (hi:IntsAre vs ns) (hl:ns.length<=sizeLine) (hr:du k callerA)
  (F:∀ base:Heap,K.In base->base.Ns mainGlobals mg->cB P w K mg base CX k fa fd [x] sp) (hbind:∀ (s:Shared) (u:Value),BindsTo s fd ⟨[u],[]⟩ [(x,u)])
  (hsp:∀ H:Hp,zc H->SqL K H a (ns.map V.int)->sp [.ref a] H (fun v _=>v = .bl true) fun _ _ _=>False)
  (hCX:∀ H e s',CX [] H s₁ (fun _ _ _=>False) e s'->False) :
  codeAny (model P w) callerA (.call (.ref fa) ⟨[.ref a],[]⟩) (fun r s'=>r = .ok (.ret (.bool true))/\OldK s₁.heap s'.heap/\s'.os=s₁.os/\AllBare s'.gens) s₁:=by
 have rv:=iQ hi
 have lenV:=hi.length
 have core:∀ H:Hp,zc H->SqL K H a (ns.map V.int)->HOk P w H s₁.heap->(∀ b,H b ≠ none->b=a)->(H a ≠ none->K.lookup a=none) →
   codeAny (model P w) callerA (.call (.ref fa) ⟨[.ref a],[]⟩) (fun r s'=>r = .ok (.ret (.bool true))/\OldK s₁.heap s'.heap/\s'.os=s₁.os/\AllBare s'.gens) s₁:=by
  intro H hO hS hok hA hK
  have base_of:∀ {b:Addr} {o:Obj},s₁.heap.get? b=some o->H b=none->(nk s₁.heap H).get? b=some o:=fun e n=>uA e n
  have noA:∀ {b:Addr} {o:Obj} {es:Array DictEntry} {ep:Nat},s₁.heap.get? b=some o->o.data = .dict es ep->H b=none:=fun {b o es ep} e d=>by
   cases q:H b with
   | none=>rfl
   | some u =>
    have e':b=a:=hA b (by rw [q]; simp)
    subst e'
    rw [ha] at e; cases e
    have d':Data.seq vs.toArray _=Data.dict es ep:=d
    cases d'
  have nsK:∀ {b:Addr} {m:Str->Option Value},s₁.heap.Ns b m->(nk s₁.heap H).Ns b m:=fun {b m} ⟨o,es,ep,e,d,r⟩=>⟨o,es,ep,base_of e (noA e d),d,r⟩
  have hKb:K.In (nk s₁.heap H):=fun b o e=>base_of (KX b o e) (by
   cases q:H b with
   | none=>rfl
   | some u =>
    have e':b=a:=hA b (by rw [q]; simp)
    subst e'
    rw [hK (by rw [q]; simp)] at e; cases e)
  have hM:Mod K mg (nk s₁.heap H):=⟨hKb,nsK hns,⟨mb,nsK hb,hbb⟩,let ⟨mc,h1,h2⟩:=hlim; ⟨mc,nsK h1,h2⟩⟩
  have e0:wK P w K mg (nk s₁.heap H) callerA [] s₁ H:=⟨rfl,hM,fun b o e=>wD e,Nat.le_of_eq (sQ _ _),trivial,fun b hb=>absurd (show b ∈ ([]:List Addr) from hb) (by simp),hok,.of_eq hg⟩
  refine codeAny_mono ((F _ hKb (nsK hns)).run callerA [] s₁ H ⟨[.ref a],[]⟩ [.ref a] [.ref a] _ _ hr e0 (hbind s₁ (.ref a)) (.cons rfl .nil) (hsp H hO hS)) fun r s' h => ?_
  cases r with
  | error e=>exact (hCX H e s' h).elim
  | ok fl =>
   cases fl with
   | next=>exact False.elim h
   | brk=>exact False.elim h
   | cont=>exact False.elim h
   | ret u =>
    obtain ⟨v,H',os,bare,un,hok',r',q⟩:=h
    have q':v = .bl true:=q
    subst q'
    obtain rfl:u=Value.bool true:=r'
    refine ⟨rfl,OldK.of_keep fun b o e => ?_,os,bare⟩
    cases q:H b with
    | none=>exact un.keep b o e q (by intro z; exact absurd (show b ∈ ([]:List Addr) from z) (by simp)) (by simp)
    | some u =>
     rcases hO b with z | ⟨ob,xs,z⟩
     ·rw [q] at z; cases z
     ·have z2:=un.frzs b ob _ z
      obtain ⟨e1,_⟩:=hok b _ z
      obtain ⟨e2,_⟩:=hok' b _ z2
      rw [e] at e1; cases e1
      exact e2
 cases hk:K.lookup a with
 | some o =>
  have e:=KX a o hk
  rw [ha] at e
  cases e
  refine core (fun _=>none) (fun _ => .inl rfl) (.inr ⟨_,vs.toArray,_,hk,rfl,rfl,rfl,by rw [AR,lenV]; exact hl,by simpa using rv⟩) (fun b u z=>by have z':(none:Option HO)=some u:=z; cases z') (fun b z=>absurd rfl z) fun z=>absurd rfl z
 | none =>
  refine core (fun b=>if b=a then some (.frz { cls := .type "list",data := .seq vs.toArray } (.lst (ns.map V.int))) else none) (fun b => ?_) (.inl (.inr ⟨{ cls := .type "list",data := .seq vs.toArray },if_pos rfl⟩)) (fun b u z => ?_) (fun b z => ?_) fun _=>hk
  ·by_cases hb:b=a
   ·exact .inr ⟨_,_,if_pos hb⟩
   ·exact .inl (if_neg hb)
  ·by_cases hb:b=a
   ·have z':=(if_pos hb).symm.trans z
    cases z'
    subst hb
    exact ⟨ha,by rw [AM]; exact hl,vs,_,rv,ha⟩
   ·have z':=(if_neg hb).symm.trans z
    cases z'
  ·by_cases hb:b=a
   ·exact hb
   ·exact absurd (if_neg hb) z
open PySem PySem.Spec PyProof.Rows
theorem wW {l:PySem.W.OpenLaw} {n k:Nat} {q:Program} {loose:List Str} {XP:(Str->Option Value)->Heap->Prop} {YP:World->Heap->Prop} {d:DefRec} {K:Params->PySem.W.Frag} {CX:World->CXT} {sp:World->Sp} {x:Str}
  (hn:l.most=some n) (hn2:n<=sizeLine) (hdf:d.params.defaults=[]) (hr:du k callerA)
  (hY:∀ (w:World) (h:Heap),YP w h->(K w.params).In h)
  (F:∀ (w:World) (mg:Str->Option Value) (fa:Addr) (h:Heap),(K w.params).In h->h.Ns mainGlobals mg->mg d.name=some (.ref fa) →
   ∃ fd:FuncData,(∀ (s:Shared) (u:Value),BindsTo s fd ⟨[u],[]⟩ [(x,u)]) ∧
    ∀ base:Heap,(K w.params).In base->base.Ns mainGlobals mg->cB l.prog w (K w.params) mg base (CX w) k fa fd [x] (sp w))
  (hsp:∀ (w:World) (H:Hp) (a:Addr) (ns:List Int),ns.length<=n->zc H->SqL (K w.params) H a (ns.map V.int)->sp w [.ref a] H (fun v _=>v = .bl true) fun _ _ _=>False)
  (hCX:∀ (w:World) (H:Hp) (s:Shared) (e:Value) (s':Shared),CX w [] H s (fun _ _ _=>False) e s'->False) :
  PySem.W.WalkO q loose XP YP l.row.toRowW d [] (fun f vs=>PySem.call f vs):=by
 refine Att.oI hn hdf fun w s₀ s₁ mg mb fa o pm cd doc a vs ns G Y ho hd hcd hmg hobj hints hlen hg => ?_
 have KX:=hY w _ Y
 obtain ⟨fd,hb,hF⟩:=F w mg fa _ KX G.T.g hmg
 exact uQ KX G.T.g G.T.b G.T.builtins G.T.nolimit hg hobj hints (BF hlen hn2) hr hF hb (fun H hO hS=>hsp w H a ns hlen hO hS) fun H e s'=>hCX w H s₁ e s'
open PySem PySem.Spec PyProof.Rows
def aU (s:Stmt):Arguments:=match s with
 | .FunctionDef _ a _ _ _ _ _ _ _ _=>a
 | _=>{ posonlyargs:=[],args:=[],vararg:=none,kwonlyargs:=[],kw_defaults:=[],kwarg:=none,defaults:=[] }
def aH (s:Stmt):List Stmt:=match s with
 | .FunctionDef _ _ b _ _ _ _ _ _ _=>b
 | _=>[]
def az (s:Stmt):Scope:=match s with
 | .FunctionDef _ _ _ _ _ _ sc _ _ _=>sc
 | _=>{ kind := .function,names:=[],isGenerator:=false,isCoroutine:=false }
abbrev CX0:CXT:=fun _ _ _ _ _ _=>False
abbrev E0:XK:=fun _ _ _=>False
theorem Ap {X:Cx}:Passes CX0 X E0:=fun _ _ _ _ _ _ _ h=>h.elim
structure Fun (K:PySem.W.Frag) (x qual:Str) (st:Stmt) (f:Addr) (fd:FuncData):Prop where
 ex:∃ (oc:Value) (od:Option Addr) (kV doc pm:Value) (an:Option Addr) (cdv ct:Value) (osl:Array (Option Value)),
  fd=PySem.W.fnOf x qual (aU st) (aH st) (az st) .none kV doc pm an cdv ct/\K.lookup f=some ⟨oc,od,.func fd,osl⟩/\PySem.W.codeIn K cdv qual=true
 kp:PySem.W.keepIn K (.ref f)=true
section
variable {P:Program} {w:World} {K:PySem.W.Frag} {mg:Str->Option Value} {base:Heap}
theorem Fun.ok {x qual:Str} {st:Stmt} {f:Addr} {fd:FuncData} {N ps:List Str} {k:Nat} {sp:Sp} (F:Fun K x qual st f fd) (S:aW N ps (az st)) (len:∀ vs H Q E,sp vs H Q E->vs.length=ps.length)
  (hbody:∀ (cdv:Value) (A:Around) (outer:List Env) (s:Shared) (H:Hp) (vs:List V) (Q:VK) (E:XK),du k (A.deeper (envOfC qual (az st) s.heap.objs.size f cdv))->sp vs H Q E →
   ∃ t,PSs (ly CX0 P w K mg base N qual (az st) f cdv A outer s H E).nox (aH st) t/\t { nx:=fun _ H'=>Q .non H',rt:=Q } (start N vs) H):cB P w K mg base CX0 (k + 1) f fd ps sp:=by
 obtain ⟨oc,od,kV,doc,pm,an,cdv,ct,osl,rfl,lk,hcd⟩:=F.ex
 refine Ah lk hcd S len fun A outer s H vs Q E hr hsp => ?_
 obtain ⟨t,h,q⟩:=hbody cdv A outer s H vs Q E hr hsp
 exact ⟨t,h.nox,q⟩
theorem Fun.binds {x qual:Str} {st:Stmt} {f:Addr} {fd:FuncData} {ps:List Str} (F:Fun K x qual st f fd)
  (h:∀ (kV doc pm:Value) (an:Option Addr) (cdv ct:Value) (us:List Value),us.length=ps.length->bindArgs (PySem.W.fnOf x qual (aU st) (aH st) (az st) .none kV doc pm an cdv ct) ⟨us,[]⟩=pure (ps.zip us)):Binds K fd ps []:=by
 obtain ⟨oc,od,kV,doc,pm,an,cdv,ct,osl,rfl,lk,hcd⟩:=F.ex
 exact .all (h kV doc pm an cdv ct)
theorem bF {x qual:Str} {st:Stmt} {f:Addr} {oc:Value} {od an:Option Addr} {osl:Array (Option Value)} {kV doc pm cdv ct:Value} (l:K.lookup f=some ⟨oc,od,.func (PySem.W.fnOf x qual (aU st) (aH st) (az st) .none kV doc pm an cdv ct),osl⟩)
  (c:PySem.W.codeIn K cdv qual=true) (k:PySem.W.keepIn K (.ref f)=true):Fun K x qual st f (PySem.W.fnOf x qual (aU st) (aH st) (az st) .none kV doc pm an cdv ct):=⟨⟨oc,od,kV,doc,pm,an,cdv,ct,osl,rfl,l,c⟩,k⟩
end
theorem yh {A:Around} {k:Nat} (hr:du k A):A.units + 1 < cLine:=CV (Df (by decide:1<=64) _) hr.units
theorem cf {n:Nat} (h:n<=1000):n < sizeLine:=CV h (by decide)
section
variable {X:Cx}
theorem pv (i:Nat) {x:Str} {pos:Pos} (hN:X.N[i]? = some x:=by rfl) (hv:Vis X.env.scope x:=by first | exact Or.inl rfl | exact Or.inr (Or.inl rfl) | exact Or.inr (Or.inr rfl)) (hd:(x == ("__debug__" : Str))=false:=by decide)
  (hcd:(x == ("__classdict__" : Str))=false:=by decide):PE X (.Name x pos) (zU i):=yH hN hv hd hcd
end
theorem cI {A B:Prop} (h:B):if false=true then A else B:=by
 rw [if_neg A9]
 exact h
theorem bX {A B:Prop} (h:A):if true=true then A else B:=by
 rw [if_pos rfl]
 exact h
theorem ia {c A B:Prop} [Decidable c] (h1:c->A) (h2:¬ c->B):if c then A else B:=by
 by_cases h:c
 ·rw [if_pos h]
  exact h1 h
 ·rw [if_neg h]
  exact h2 h
theorem jX {c A B:Prop} [Decidable c] (hc:c) (h:B):if (!decide c)=true then A else B:=by
 rw [decide_eq_true hc]
 exact cI h
def aB (H H':Hp):Prop:=∀ b o,H b=some o->H' b=some o
theorem aB.refl (H:Hp):aB H H:=fun _ _ h=>h
theorem aB.trans {H H1 H2:Hp} (a:aB H H1) (b:aB H1 H2):aB H H2:=fun c o h=>b c o (a c o h)
theorem aB.free {H H':Hp} (e:aB H H') {l:Addr} (h:H' l=Option.none):H l=Option.none:=by
 cases q:H l with
 | none=>rfl
 | some o =>
  rw [e l o q] at h
  cases h
theorem aB.seq {K:PySem.W.Frag} {H H':Hp} {a:Addr} {xs:List V} (e:aB H H') (h:SqL K H a xs):SqL K H' a xs:=by
 rcases h with (h | ⟨o,h⟩) | h
 ·exact .inl (.inl (e _ _ h))
 ·exact .inl (.inr ⟨o,e _ _ h⟩)
 ·exact .inr h
end L2
set_option maxHeartbeats 4000000
namespace L2
open PySem PySem.Spec PyProof.Rows
def oJ (on:List (Str × NameKind)) (N:List Str) (sc:Scope) (N':List Str) (ix:List (Option Nat)):Bool :=
 decide (sc.kind = .function) &&
 sc.names.all (fun y=>match y.2 with
  | .local=>decide (sc.names.lookup y.1=some .local)
  | .cell=>false
  | .free=>decide (on.lookup y.1=some .cell) || decide (on.lookup y.1=some .free)
  | _=>true) &&
 decide (ix.length=N'.length) &&
 (ix.zip N').all (fun p=>match p.1 with
  | none=>true
  | some j=>decide (N[j]? = some p.2) && decide (sc.names.lookup p.2=some .free))
theorem jj {ns:List (Str × NameKind)} {y:Str} {k:NameKind} (h:ns.lookup y=some k):(y,k) ∈ ns:=CN h
structure jY (on:List (Str × NameKind)) (N:List Str) (sc:Scope) (N':List Str) (ix:List (Option Nat)):Prop where
 kind:sc.kind = .function
 locs:∀ y ∈ sc.names,y.2 = .local->sc.names.lookup y.1=some .local
 nocell:∀ y ∈ sc.names,y.2 ≠ .cell
 frees:∀ y ∈ sc.names,y.2 = .free->on.lookup y.1=some .cell\/on.lookup y.1=some .free
 len:ix.length=N'.length
 slot:∀ (i j:Nat) (y:Str),ix[i]? = some (some j)->N'[i]? = some y->N[j]? = some y/\sc.names.lookup y=some .free
theorem jY.of {on:List (Str × NameKind)} {N:List Str} {sc:Scope} {N':List Str} {ix:List (Option Nat)} (h:oJ on N sc N' ix=true):jY on N sc N' ix:=by
 unfold oJ at h
 rw [Co,Co,Co] at h
 obtain ⟨⟨⟨h1,h2⟩,h3⟩,h4⟩:=h
 rw [CT] at h2 h4
 refine ⟨of_decide_eq_true h1,fun y hy e => ?_,fun y hy e => ?_,fun y hy e => ?_,of_decide_eq_true h3,fun i j y e1 e2 => ?_⟩
 ·have q:=h2 y hy
  rw [e] at q
  exact of_decide_eq_true q
 ·have q:=h2 y hy
  rw [e] at q
  cases q
 ·have q:=h2 y hy
  rw [e] at q
  exact ((Bool.or_eq_true _ _).mp q).imp of_decide_eq_true of_decide_eq_true
 ·have q:=h4 (some j,y) (AY (i:=i) (by rw [EW]; exact ⟨e1,e2⟩))
  dsimp only at q
  rw [Co] at q
  exact ⟨of_decide_eq_true q.1,of_decide_eq_true q.2⟩
theorem jk {α β : Type} (f : α -> β -> β) (b : α -> β -> Sem (ForInStep β)):∀ (l:List α) (c : β),(∀ x ∈ l,∀ d,b x d=pure (.yield (f x d)))->forIn l c b=pure (l.foldl (fun d x=>f x d) c)
 | [],c,_=>rfl
 | x :: l,c,h=>by
  rw [List.forIn_cons,h x Bg,pure_bind]
  exact jk f b l (f x c) fun y hy=>h y (Bh _ hy)
def aZ (env:Env) (l:List (Str × NameKind)) (c:List (Str × Addr)):List (Str × Addr) :=
 l.foldl (fun d y=>if y.2 = .free then (y.1,(env.cells.lookup y.1).getD 0) :: d else d) c
theorem qv {sc:Scope} {env:Env} (h:∀ y ∈ sc.names,y.2 = .free->∃ c,env.cells.lookup y.1=some c):closureFor sc env=pure (aZ env sc.names []):=by
 simp only [closureFor]
 unfold aZ
 rw [jk (fun y d=>if y.2 = .free then (y.1,(env.cells.lookup y.1).getD 0) :: d else d)]
 ·rfl
 ·rintro ⟨n,k⟩ hy d
  by_cases hk:k = .free
  ·subst hk
   obtain ⟨c,e⟩:=h _ hy rfl
   have e':env.cells.lookup n=some c:=e
   simp only [beq_self_eq_true,if_true,cellOf,e',Option.getD_some]
   rfl
  ·have hb:(k == NameKind.free)=false:=by simpa using hk
   simp only [hb,A8,if_false,hk]
theorem dA {env:Env} {y:Str} {c:Addr}:∀ (l:List (Str × NameKind)) (d:List (Str × Addr)),(∀ z ∈ l,z.2 = .free->∃ c,env.cells.lookup z.1=some c)->(aZ env l d).lookup y=some c →
  d.lookup y=some c\/env.cells.lookup y=some c
 | [],d,_,h => .inl h
 | (n,k) :: l,d,hf,h=>by
  have h':(aZ env l (if k = .free then (n,(env.cells.lookup n).getD 0) :: d else d)).lookup y=some c:=h
  have ih:=dA l _ (fun z hz=>hf z (Bh _ hz)) h'
  by_cases hk:k = .free
  ·subst hk
   rw [if_pos rfl] at ih
   rcases ih with q | q
   ·rw [DJ] at q
    cases hx:(y == n) with
    | true =>
     rw [hx] at q
     obtain ⟨c',e⟩:=hf (n,.free) Bg rfl
     have e':env.cells.lookup n=some c':=e
     have q':some ((env.cells.lookup n).getD 0)=some c:=q
     rw [e'] at q'
     have en:y=n:=eq_of_beq hx
     rw [en,e']
     exact .inr q'
    | false =>
     rw [hx] at q
     exact .inl q
   ·exact .inr q
  ·rw [if_neg hk] at ih
   exact ih
theorem fh {env:Env} {y:Str}:∀ (l:List (Str × NameKind)) (d:List (Str × Addr)),((y,NameKind.free) ∈ l\/∃ c,d.lookup y=some c)->∃ c,(aZ env l d).lookup y=some c
 | [],d,h=>by
  rcases h with h | h
  ·cases h
  ·exact h
 | (n,k) :: l,d,h=>by
  show ∃ c,(aZ env l (if k = .free then (n,(env.cells.lookup n).getD 0) :: d else d)).lookup y=some c
  refine fh l _ ?_
  have old:(∃ c,d.lookup y=some c)->∃ c,(if k = .free then (n,(env.cells.lookup n).getD 0) :: d else d).lookup y=some c:=fun ⟨c,e⟩=>by
   by_cases hk:k = .free
   ·rw [if_pos hk,DJ]
    cases hx:(y == n) with
    | true=>exact ⟨_,rfl⟩
    | false=>exact ⟨c,e⟩
   ·rw [if_neg hk]; exact ⟨c,e⟩
  rcases h with h | h
  ·rcases A6.mp h with q | q
   ·cases q
    rw [if_pos rfl,DJ,beq_self_eq_true]
    exact .inr ⟨_,rfl⟩
   ·exact .inl q
  ·exact .inr (old h)
theorem jZ {c:Str->NameKind->Bool} {y:Str}:∀ l:List (Str × NameKind),(l.map fun z=>if c z.1 z.2=true then (z.1,NameKind.cell) else (z.1,z.2)).lookup y=(l.lookup y).map fun k=>if c y k=true then NameKind.cell else k
 | []=>rfl
 | (n,k) :: l=>by
  have ih:=jZ (c:=c) (y:=y) l
  rw [Bj]
  have e:(if c n k=true then (n,NameKind.cell) else (n,k))=(n,if c n k=true then NameKind.cell else k):=by split <;> rfl
  show List.lookup y ((if c n k=true then (n,NameKind.cell) else (n,k)) :: _)=_
  rw [e,DJ,DJ]
  cases hx:(y == n) with
  | true =>
   have en:y=n:=eq_of_beq hx
   subst en
   rfl
  | false=>exact ih
def blk (X:Cx) (sc:Scope) (cl:List (Str × Addr)) (C:Addr) (N':List Str) (s:Shared) (H:Hp) (fp:List Addr):Cx :=
 { X with N:=N',s₀:=s,H₀:=H,env:=compEnvC sc cl C X.env,outer:=X.stack,ex:=fp,fn:=fun _=>false,pn:=[],xe:=fun _ _=>False }
def PF (X:Cx) (ifs:List Expr) (t:TT):Prop :=
  ∀ (pins:List (Addr × Obj)) (s:Shared) (σ:St) (H:Hp) (Q:Bool->Hp->Prop),Inv X pins σ H s->t σ H Q →
    wpAny (model X.prog X.w) X.A (forIn ifs true fun c r=>if r=true then do let ok ← isTrue c X.env (eval c X.env); pure (ForInStep.yield ok) else pure (ForInStep.yield r)) (TP X pins σ Q) X.xe s
theorem cC {X:Cx}:PF X [] (fun _ H Q=>Q true H):=fun _ _ _ H _ I h=>wpAny_tests_nil ⟨H,I,h⟩
theorem uS {X:Cx} {c:Expr} {t:TT} (h:PT X c t):PF X [c] t:=fun pins s σ H Q I q=>wpAny_tests_one (h pins s σ H Q I q)
def inner (ix:List (Option Nat)) (σ:St):St:=ix.map fun o=>match o with | none=>none | some j=>(σ[j]?).join
def j1 (J:It) (g:TG) (tc:TT) (te:TE) (τ : St) (Q:VK) (H1:Hp):Prop:=∃ W:Nat->Nat->St->List V->Hp->Prop,(∃ m,W 0 m τ [] H1)/\∀ i m τ ys H,W i m τ ys H →
 (J.stop i H/\ys.length<=sizeLine/\∀ l,H l=none->Q (.ref l) (upd H l (.lst ys))) ∨
 (J.go i H/\∀ x H',J.yld i H x H'->g x τ H' fun τ2 H2=>tc τ2 H2 fun b H3=>if b=true then te τ2 H3 fun y H4=>ys.length < sizeLine/\∃ m',m' < m/\W (i + 1) m' τ2 (ys ++ [y]) H4 else ∃ m',m' < m/\W (i + 1) m' τ2 ys H3)
def uT (ix:List (Option Nat)) (wi:TI) (g:TG) (tc:TT) (te:TE):TE:=fun σ H Q=>wi σ H fun J H1=>j1 J g tc te (inner ix σ) Q H1
section
variable {X:Cx} {sc:Scope} {N':List Str} {ix:List (Option Nat)} {pins:List (Addr × Obj)} {σ:St} {H:Hp} {s:Shared}
theorem zd (I:Inv X pins σ H s) (K:jY X.env.scope.names X.N sc N' ix) {C:Addr} {fp:List Addr} (hC:s.heap.objs.size<=C) (f:∀ b ∈ fp,jw X pins H b) (fl:∀ b ∈ fp,b < s.heap.objs.size) :
  (blk X sc (aZ X.env sc.names []) C N' s H fp).Ok:=by
 have hcl:∀ y ∈ sc.names,y.2 = .free->∃ c,X.env.cells.lookup y.1=some c:=fun y hy e=>I.ok.has y.1 (K.frees y hy e)
 have up:∀ y c,(aZ X.env sc.names []).lookup y=some c->X.env.cells.lookup y=some c:=fun y c e=>by
  rcases dA sc.names [] hcl e with q | q
  ·cases q
  ·exact q
 have nfs:∀ b ∈ fp,b ∉ frs X.stack:=fun b hb z=>by
  rcases A6.mp (I.nq b z) with q | q
  ·exact (f b hb).2.1 q
  ·exact (f b hb).2.2.1 q
 refine ⟨I.ok.mod,K.kind,I.ok.glob,I.ok.blt,hC,fun y z c h1 h2=>I.ok.inj y z c (up _ _ h1) (up _ _ h2),fun y hy => ?_,(fun y c h=>nomatch h),I.ok.hd,I.ok.frames,.inl rfl,fun b hb => ?_,fun b o e=>I.bs b o e,BF I.ok.bsz I.sz,fun b o e hb => ?_,nfs,I.stack,I.rz⟩
 ·have hy':(relabel sc X.env).names.lookup y=some .cell\/(relabel sc X.env).names.lookup y=some .free:=hy
  have em:=jZ (c:=fun n k=>k == .free && X.env.scope.kind == .function && X.env.kindOf n == some .cell) (y:=y) sc.names
  have em':(relabel sc X.env).names.lookup y=_:=em
  rw [em'] at hy'
  cases hq:sc.names.lookup y with
  | none=>rw [hq] at hy'; rcases hy' with q | q <;> cases q
  | some k =>
   have km:=jj hq
   have hk:k = .free:=by
    rw [hq] at hy'
    simp only [C8,Option.some.injEq] at hy'
    by_cases hc:(k == .free && X.env.scope.kind == .function && X.env.kindOf y == some .cell)=true
    ·rw [Co,Co] at hc
     exact by simpa using hc.1.1
    ·rw [if_neg hc] at hy'
     rcases hy' with q | q
     ·exact absurd q (K.nocell _ km)
     ·exact q
   subst hk
   exact fh sc.names [] (.inl km)
 ·exact ⟨A5 (Ba (fl b hb) hC),fun y c e=>(f b hb).2.2.2.2.1 y c (up y c e)⟩
 ·rcases (f b hb).2.2.2.1 with q | q
  ·exact I.ok.noex b o e q
  ·exact absurd (Ba (A1 e) (BF I.ok.bsz q)) (BB _)
theorem wX (I:Inv X pins σ H s) (K:jY X.env.scope.names X.N sc N' ix) {C:Addr} {fp:List Addr} (hC:s.heap.objs.size<=C) (f:∀ b ∈ fp,jw X pins H b) (fl:∀ b ∈ fp,b < s.heap.objs.size)
  {h1:Heap} {t:Nat} {m:Str->Option Value} (k:∀ b o,s.heap.get? b=some o->h1.get? b=some o) (ns:h1.Ns C m) :
  Inv (blk X sc (aZ X.env sc.names []) C N' s H fp) [] (inner ix σ) H { s with heap:=h1,toks:=t }:=by
 have hcl:∀ y ∈ sc.names,y.2 = .free->∃ c,X.env.cells.lookup y.1=some c:=fun y hy e=>I.ok.has y.1 (K.frees y hy e)
 have up:∀ y c,(aZ X.env sc.names []).lookup y=some c->X.env.cells.lookup y=some c:=fun y c e=>by
  rcases dA sc.names [] hcl e with q | q
  ·cases q
  ·exact q
 refine ⟨zd I K hC f fl,rfl,I.bare,Un.kept k,⟨m,ns,fun i y v e1 e2 e3 => ?_⟩,fun y c e => ?_,I.hok.fresh hC,fun y c e=>I.freeC y c (up y c e),(fun p hp=>nomatch hp),I.hok.kept k,?_⟩
 ·have e2':(ix.map fun o=>match o with | none=>none | some j=>(σ[j]?).join)[i]? = some (some v):=e2
  rw [AX] at e2'
  cases hi:ix[i]? with
  | none=>rw [hi] at e2'; cases e2'
  | some o =>
   cases o with
   | none=>rw [hi] at e2'; cases e2'
   | some j =>
    rw [hi] at e2'
    have e4:(σ[j]?).join=some v:=Bb e2'
    have e5:σ[j]? = some (some v):=by
     cases hj:σ[j]? with
     | none=>rw [hj] at e4; cases e4
     | some z=>rw [hj] at e4; rw [show z=some v from e4]
    obtain ⟨n1,n2⟩:=K.slot i j y hi e1
    have mem:=jj n2
    have kc:X.env.kindOf y=some .cell\/X.env.kindOf y=some .free:=K.frees _ mem rfl
    obtain ⟨m',_,hl⟩:=I.loc
    obtain ⟨u,r,l⟩:=hl j y v n1 e5 (.inr kc)
    refine ⟨u,r,?_⟩
    rcases l with ⟨q,_⟩ | ⟨_,c,q,z⟩
    ·rcases kc with kc | kc <;> (rw [kc] at q; cases q)
    ·obtain ⟨c',hc'⟩:=fh (env:=X.env) (y:=y) sc.names [] (.inl mem)
     have:=up y c' hc'
     rw [q] at this
     cases this
     refine .inr ⟨?_,c,hc',z.keeps k⟩
     have em:=jZ (c:=fun n k=>k == .free && X.env.scope.kind == .function && X.env.kindOf n == some .cell) (y:=y) sc.names
     have em':(relabel sc X.env).names.lookup y=_:=em
     rcases kc with kc | kc
     ·left
      show (relabel sc X.env).names.lookup y=some .cell
      rw [em',n2]
      simp only [C8,kc,I.ok.kind]
      rfl
     ·right
      show (relabel sc X.env).names.lookup y=some .free
      rw [em',n2]
      simp only [C8,kc,I.ok.kind]
      rfl
 ·obtain ⟨v,z⟩:=I.cell y c (up y c e)
  exact ⟨v,z.keeps k⟩
 ·show (ix.map _).length=N'.length
  rw [AM]
  exact K.len
end
open PySem PySem.Spec PyProof.Rows
theorem qw {prog:Program} {w:World} {A:Around} {R:Result->Shared->Prop} {s:Shared} {elt target iter:Expr} {ifs:List Expr} {sc:Scope} {pos:Pos} {it acc:Value} {env:Env} (J:Nat->Shared->Prop)
    (turn:∀ n s,J n s->wpAny (model prog w) A (pyNext it) (fun r s1=>match r with
      | none=>R (.ok .next) s1
      | some v=>wpAny (model prog w) A (letOwnedTupleGo target it v) (fun _ s2=>wpAny (model prog w) A (assign target env v) (fun _ s3 =>
          wpAny (model prog w) A (forIn ifs true fun c r=>if r=true then do let ok ← isTrue c env (eval c env); pure (ForInStep.yield ok) else pure (ForInStep.yield r)) (fun ok s4 =>
            if ok=true then wpAny (model prog w) A (eval elt env) (fun x s5=>wpAny (model prog w) A (call (.builtin "list.append") [acc,x]) (fun _ s6=>∃ m,m < n/\J m s6) (fun _ _=>False) s5) (fun _ _=>False) s4
            else ∃ m,m < n/\J m s4) (fun _ _=>False) s3) (fun _ _=>False) s2) (fun _ _=>False) s1) (fun _ _=>False) s)
    (n:Nat) (h:J n s):codeAny (model prog w) A (.compLoop (.ListComp elt [⟨target,iter,ifs,0⟩] sc pos) 0 it acc env) R s:=by
  refine codeAny_loop rfl J (fun k t q => ?_) n h
  show wpAny _ A (Sem.onRaise (compTurn (.ListComp elt [⟨target,iter,ifs,0⟩] sc pos) 0 it acc env) (fun x=>do noteFrame x env; theTreesLotGoes x)) _ _ t
  refine wpAny_noted ?_
  rw [compTurn_list]
  have no:∀ {E:Value->Shared->Prop} (x:Value) (t:Shared),False->E x t:=fun _ _ z=>z.elim
  refine wpAny_bind (wpAny_standAt (wpAny_bind (wpAny_mono (turn k t q) (fun r s1 h1 => ?_) no)))
  cases r with
  | none=>exact wpAny_pure h1
  | some v =>
    refine wpAny_bind (wpAny_mono h1 (fun _ s2 h2=>wpAny_bind (wpAny_mono h2 (fun _ s3 h3=>wpAny_bind (wpAny_mono h3 (fun ok s4 h4 => ?_) no)) no)) no)
    cases ok with
    | false=>exact wpAny_pure ⟨rfl,h4⟩
    | true=>exact wpAny_bind (wpAny_bind (wpAny_mono h4 (fun x s5 h5=>wpAny_bind (wpAny_mono h5 (fun _ s6 h6=>wpAny_pure (wpAny_pure ⟨rfl,h6⟩)) no)) no))
section
variable {X:Cx}
def wY (X:Cx) (pins:List (Addr × Obj)) (σ:St) (Q:VK) (use:Option (Value->Sem Unit)) (Q2:Value->Shared->Prop):Prop :=
 ∀ (s4:Shared) (H3:Hp) (acc C:Addr) (ys:List V) (oC:Obj),Inv X (pins ++ [(C,oC)]) σ (upd H3 acc (.lst ys)) s4->(∃ m,s4.heap.Ns C m)->X.s₀.heap.objs.size<=C->(∀ x c,X.env.cells.lookup x=some c->c ≠ C)->(∀ p ∈ X.pn ++ pins,p.1 ≠ C)->Q (.ref acc) (upd H3 acc (.lst ys)) →
  compPost (model X.prog X.w) X.A X.xe use Q2 (.ref acc) C (.ok .next) s4
theorem lV {elt target iter:Expr} {ifs:List Expr} {sc:Scope} {pos ps:Pos} {wi:TI} {g:TG} {tc:TT} {te:TE} {N':List Str} {ix:List (Option Nat)} {use:Option (Value->Sem Unit)} {Q2:Value->Shared->Prop}
  {pins:List (Addr × Obj)} {s:Shared} {σ:St} {H:Hp} {Q:VK}
  (hcalm:X.calm=true) (hi:PI X target iter wi) (hk:oJ X.env.scope.names X.N sc N' ix=true)
  (hg:∀ cl C s H fp,PG (blk X sc cl C N' s H fp) target g) (hc:∀ cl C s H fp,PF (blk X sc cl C N' s H fp) ifs tc) (he:∀ cl C s H fp,PE (blk X sc cl C N' s H fp) elt te)
  (hs:∀ x,foldedSetIterable iter X.env x=pure x) (fin:wY X pins σ Q use Q2) (I:Inv X pins σ H s) (h:uT ix wi g tc te σ H Q) :
  wpAny (model X.prog X.w) X.A (comprehension (.ListComp elt [⟨target,iter,ifs,0⟩] sc pos) sc X.env ps (newList []) false (eval iter X.env) use) Q2 X.xe s:=by
 have K:=jY.of hk
 have hcl:∀ y ∈ sc.names,y.2 = .free->∃ c,X.env.cells.lookup y.1=some c:=fun y hy e=>I.ok.has y.1 (K.frees y hy e)
 refine wpAny_comprehension_free rfl hs (qv hcl) K.kind K.locs (thn (hi pins s σ H _ I h) fun v s1 h1=>thn h1 fun itv s2 h2 => ?_)
 obtain ⟨it,fp,tn,J,H2,e,I2,T,st2,f2,W,⟨m0,w0⟩,turn⟩:=h2
 subst e
 refine wpAny_newObj_type (wpAny_newFunctionEnv K.nocell (by intro y hy; simp at hy) (fun h1 ns1 sb1 => ?_) K.kind)
 dsimp only at ns1 sb1 ⊢
 generalize hP:s2.heap.push { cls := .type "list",dict:=none,data := .seq ([]:List Value).toArray }=G at ns1 sb1 ⊢
 have sG:G.objs.size=s2.heap.objs.size + 1:=by rw [<- hP,B4]
 have fl:∀ b ∈ fp,b < s2.heap.objs.size:=fun b hb=>by
  obtain ⟨o,e,_⟩:=T.obj _ _ st2 b hb
  exact A1 e
 have hC:s2.heap.objs.size<=G.objs.size:=by rw [sG]; exact EC _
 have aC:s2.heap.objs.size ≠ G.objs.size:=by rw [sG]; exact A5 (B2 _)
 have old:∀ b o,s2.heap.get? b=some o->h1.get? b=some o:=fun b o e=>by
  have lt:=A1 e
  have ne:b ≠ G.objs.size:=A5 (Ba lt hC)
  rw [sb1.2 b ne]
  exact AN _ (hP ▸ AN _ e)
 have accO:h1.PlainList s2.heap.objs.size #[]:=⟨_,by
  rw [sb1.2 _ aC]
  exact AN _ (hP ▸ A0 _ rfl)⟩
 have IB:=wX (t:=s2.toks + ([]:List (Str × Value)).length) I2 K hC f2 fl old ns1
 have up:∀ y c,(aZ X.env sc.names []).lookup y=some c->X.env.cells.lookup y=some c:=fun y c e=>by
  rcases dA sc.names [] hcl e with q | q
  ·cases q
  ·exact q
 have accNotCell:∀ y c,(aZ X.env sc.names []).lookup y=some c->c ≠ s2.heap.objs.size:=fun y c e z=>by
  obtain ⟨v,q⟩:=I2.cell y c (up y c e)
  exact absurd q.lt (by rw [z]; exact BB _)
 have accFs:s2.heap.objs.size ∉ frs X.stack:=fun z=>by
  rcases A6.mp (I2.nq _ z) with q | q
  ·exact absurd I2.lt (by rw [<- q]; exact BB _)
  ·exact I2.yG (AS _) q
 have accFp:s2.heap.objs.size ∉ fp:=fun z=>absurd (fl _ z) (BB _)
 have stat:∀ {H':Hp} {ob:Obj},(∀ b ∈ fp,H' b=none)->∀ b ∈ fp,jw (blk X sc (aZ X.env sc.names []) G.objs.size N' s2 H2 fp) [(s2.heap.objs.size,ob)] H' b:=fun {H' ob} hn b hb=>by
  refine ⟨hn b hb,A5 (Ba (fl b hb) hC),IB.ok.exfs b hb,.inl hb,fun y c e=>(f2 b hb).2.2.2.2.1 y c (up y c e),fun p hp z => ?_⟩
  have ep:p=(s2.heap.objs.size,ob):=by simpa [blk] using hp
  subst ep
  exact accFp (by rw [show s2.heap.objs.size=b from z]; exact hb)
 have accPin:∀ {pl:List (Addr × Obj)} {σ':St} {H':Hp} {s':Shared} {its:Array Value} {n:Nat},Inv (blk X sc (aZ X.env sc.names []) G.objs.size N' s2 H2 fp) pl σ' H' s'->s'.heap.get? s2.heap.objs.size=some { cls := .type "list",data := .seq its n } →
   H' s2.heap.objs.size=none->Inv (blk X sc (aZ X.env sc.names []) G.objs.size N' s2 H2 fp) [(s2.heap.objs.size,{ cls := .type "list",data := .seq its n })] σ' H' s':=fun {pl σ' H' s' its n} J' e nn=>J'.hX fun p hp=>by
  have ep:p=(s2.heap.objs.size,({ cls := .type "list",data := .seq its n }:Obj)):=by simpa [blk] using hp
  subst ep
  exact ⟨e,nn,aC,accFs,fun v z=>nomatch z⟩
 have loop:codeAny (model X.prog X.w) X.A (.compLoop (.ListComp elt [⟨target,iter,ifs,0⟩] sc pos) 0 (.ref it) (.ref s2.heap.objs.size) (compEnvC sc (aZ X.env sc.names []) G.objs.size X.env))
   (compPost (model X.prog X.w) X.A X.xe use Q2 (.ref s2.heap.objs.size) G.objs.size) { s2 with heap:=h1,toks:=s2.toks + ([]:List (Str × Value)).length }:=by
  refine qw (fun n s'=>∃ i ys its nn σ' H',Inv (blk X sc (aZ X.env sc.names []) G.objs.size N' s2 H2 fp) [(s2.heap.objs.size,{ cls := .type "list",data := .seq its nn })] σ' H' s'/\Vals ys its.toList/\tn i s'.heap/\(∀ b ∈ fp,H' b=none)/\W i n σ' ys H')
   (fun n s3 h3 => ?_) m0 ?_
  ·obtain ⟨i,ys,its,nn,σ3,H3,I3,r3,st3,fr3,w3⟩:=h3
   obtain ⟨e3,a3,_,_,_⟩:=I3.pin (s2.heap.objs.size,{ cls := .type "list",data := .seq its nn }) (by simp [blk])
   rcases turn i n σ3 ys H3 w3 with ⟨stop,zl,q3⟩ | ⟨go,step⟩
   ·refine thn (T.done (blk X sc (aZ X.env sc.names []) G.objs.size N' s2 H2 fp) rfl rfl rfl hcalm i _ s3 σ3 H3 _ I3 (stat fr3) st3 stop) fun r s4 ⟨hr,I4⟩ => ?_
    subst hr
    obtain ⟨e4,a4,_,_,_⟩:=I4.pin (s2.heap.objs.size,{ cls := .type "list",data := .seq its nn }) (by simp [blk])
    obtain ⟨m4,n4,_⟩:=I4.loc
    obtain ⟨oC,es4,ep4,c4,d4,r4⟩:=id n4
    have ltA:∀ b o,s2.heap.get? b=some o->b ≠ s2.heap.objs.size:=fun b o e=>A5 (A1 e)
    have B:=I4.base
    have hok:HOk X.prog X.w (upd H3 s2.heap.objs.size (.lst ys)) s4.heap:=fun b o e=>by
     by_cases hb:b=s2.heap.objs.size
     ·subst hb
      rw [af] at e
      cases e
      exact ⟨zl,its.toList,nn,r3,e4⟩
     ·rw [aE hb] at e
      refine (I4.hok b o e).stay (fun c u hc q=>q) (fun c q => ?_) (fun c xs q => ?_)
      ·rw [aE (aD q a4)]; exact q
      ·rw [aE (aD q a4)]; exact q
    have I5:Inv X pins σ (upd H3 s2.heap.objs.size (.lst ys)) s4:=by
     refine I2.zT (ch:=fp) I4.os ⟨fun b o e n hb hx=>B.keep b o e n hb hx,fun b o e n hb hx=>B.slot b o e n hb hx,fun b o e n hx => ?_,fun b o e hx=>B.there b o e hx,fun b xs e => ?_,fun b o u e => ?_,fun b ps e => ?_⟩ hok I4.bare (fun b hb => ?_)
     ·rw [aE (ltA b o e)]; exact B.free b o e n hx
     ·have q:=B.tups b xs e
      rw [aE (aD q a4)]; exact q
     ·have q:=B.frzs b o u e
      rw [aE (aD q a4)]; exact q
     ·obtain ⟨more,q⟩:=B.tbls b ps e
      exact ⟨more,by rw [aE (aD q a4)]; exact q⟩
     ·obtain ⟨g0,g1,g2,g3,g4,g5⟩:=f2 b hb
      exact ⟨g3,g1,g4,g5⟩
    have cL:G.objs.size ≠ X.env.locals:=Ds (Ba I2.lt hC)
    have I6:Inv X (pins ++ [(G.objs.size,oC)]) σ (upd H3 s2.heap.objs.size (.lst ys)) s4:=I5.hX fun p hp=>by
     rcases A2.mp hp with q | q
     ·exact I5.pin p (Bi _ q)
     ·have ep:p=(G.objs.size,oC):=by simpa using q
      subst ep
      exact ⟨c4,by rw [aE (BN aC)]; exact I4.free,cL,I2.yG hC,fun v z=>by rw [d4] at z; cases z⟩
    refine fin s4 H3 s2.heap.objs.size G.objs.size ys oC I6 ⟨m4,n4⟩ (BF I2.sz hC) (fun y c e z => ?_) (fun p hp z => ?_) (q3 _ a4)
    ·obtain ⟨v,q⟩:=I2.cell y c e
     exact absurd (Ba q.lt hC) (by rw [z]; exact BB _)
    ·exact absurd (Ba (A1 (I2.pin p hp).1) hC) (by rw [z]; exact BB _)
   ·refine thn (T.item (blk X sc (aZ X.env sc.names []) G.objs.size N' s2 H2 fp) rfl rfl rfl hcalm i _ s3 σ3 H3 _ I3 (stat fr3) st3 go) fun r s4 ⟨u,hr,h4⟩ => ?_
    subst hr
    refine thn h4 fun _ s5 ⟨x,H5,I5,r5,y5,st5,fr5⟩ => ?_
    have I5':=I5.pinned (stat fr5) (T.obj _ _ st5)
    refine thn (hg _ _ _ _ _ _ s5 σ3 H5 x u _ I5' r5 (step x H5 y5)) fun _ s6 ⟨σ6,H6,I6,q6⟩ => ?_
    refine thn (hc _ _ _ _ _ _ s6 σ6 H6 _ I6 q6) fun ok s7 ⟨H7,I7,q7⟩ => ?_
    have back:∀ {σ7:St} {H7:Hp} {s7:Shared},Inv (blk X sc (aZ X.env sc.names []) G.objs.size N' s2 H2 fp) ([(s2.heap.objs.size,{ cls := .type "list",data := .seq its nn })] ++ gQ fp s5.heap) σ7 H7 s7->tn (i + 1) s7.heap/\∀ b ∈ fp,H7 b=none:=fun J7 =>
     ⟨T.keep _ _ _ st5 fun b hb o e=>(J7.pin (b,o) (Bi _ (Bi _ (dF hb e)))).1,fun b hb=>by
      obtain ⟨o,e,d⟩:=T.obj _ _ st5 b hb
      exact (J7.pin (b,o) (Bi _ (Bi _ (dF hb e)))).2.1⟩
    cases ok with
    | false =>
     rw [if_neg (by decide)] at q7
     obtain ⟨m',lm,w7⟩:=q7
     show ∃ m,m < n/\_
     exact ⟨m',lm,i + 1,ys,its,nn,σ6,H7,I7.eE,r3,(back I7).1,(back I7).2,w7⟩
    | true =>
     rw [if_pos rfl] at q7
     refine thn (he _ _ _ _ _ _ s7 σ6 H7 _ I7 q7) fun z s8 ⟨y,H8,I8,r8,lz,m',lm,w8⟩ => ?_
     obtain ⟨e8,a8,_,_,_⟩:=I8.pin (s2.heap.objs.size,{ cls := .type "list",data := .seq its nn }) (by simp [blk])
     have sz:its.size<=sizeLine:=by
      have l:ys.length=its.size:=r3.length.trans AW
      rw [<- l]
      exact DP lz
     refine wpAny_list_append_plain ⟨nn,e8⟩ (fun h' pl' sb' => ?_) sz
     obtain ⟨n9,e9⟩:=pl'
     have I8p:Inv (blk X sc (aZ X.env sc.names []) G.objs.size N' s2 H2 fp) (gQ fp s5.heap) σ6 H8 s8:=I8.hX fun p hp=>I8.pin p (Bi _ (Bi _ hp))
     have I9:=I8p.turned (it:=s2.heap.objs.size) (h':=h') (t':=s8.toks) (fun b o ne e=>by rw [sb'.2 b ne]; exact e) a8 aC (.inr (AS _)) (fun y c e=>accNotCell y c e) (fun p hp z=>by
      have hp':p ∈ gQ fp s5.heap:=by simpa [blk] using hp
      exact accFp (by rw [<- z]; exact (lP hp').1))
     have b9:tn (i + 1) h'/\∀ b ∈ fp,H8 b=none :=
      ⟨T.keep _ _ _ st5 fun b hb o e=>(I9.pin (b,o) (Bi _ (dF hb e))).1,(back I8).2⟩
     exact ⟨m',lm,i + 1,ys ++ [y],its.push z,n9,σ6,H8,accPin I9 e9 a8,by rw [Cv]; exact r3.append (.cons r8 .nil),b9.1,b9.2,w8⟩
  ·obtain ⟨n0,e0⟩:=accO
   exact ⟨0,[], #[],n0,_,H2,accPin IB e0 (I2.hok.fresh (AS _)),.nil,T.keep _ _ _ st2 fun b hb o e=>old b o e,fun b hb=>(f2 b hb).1,w0⟩
 exact codeAny_compStart_list loop (T.self _ 0 _ _ _ (T.keep _ _ _ st2 fun b hb o e=>old b o e) loop)
theorem cw {elt target iter:Expr} {ifs:List Expr} {sc:Scope} {pos:Pos} {wi:TI} {g:TG} {tc:TT} {te:TE} (N':List Str) (ix:List (Option Nat))
  (hcalm:X.calm=true) (hi:PI X target iter wi) (hk:oJ X.env.scope.names X.N sc N' ix=true)
  (hg:∀ cl C s H fp,PG (blk X sc cl C N' s H fp) target g) (hc:∀ cl C s H fp,PF (blk X sc cl C N' s H fp) ifs tc) (he:∀ cl C s H fp,PE (blk X sc cl C N' s H fp) elt te)
  (hs:∀ x,foldedSetIterable iter X.env x=pure x:=by intro _; rfl):PE X (.ListComp elt [⟨target,iter,ifs,0⟩] sc pos) (uT ix wi g tc te):=by
 intro pins s σ H Q I h
 rw [eval_ListComp]
 refine lV hcalm hi hk hg hc he hs (fun s4 H3 acc C ys oC I4 ns hC hc hp q => ?_) I h
 obtain ⟨m,ns⟩:=ns
 refine ⟨m,ns,fun h' sb=>⟨.ref acc,_,?_,rfl,q⟩⟩
 obtain ⟨_,n0,n1,n2,_⟩:=I4.pin (C,oC) (by simp)
 exact (I4.eE).turned (it:=C) (h':=h') (t':=s4.toks) (fun b o ne e=>by rw [sb.2 b ne]; exact e) n0 n1 (.inr hC) hc hp
theorem dH {elt target iter:Expr} {ifs:List Expr} {sc:Scope} {pos pos' spos:Pos} {wi:TI} {g:TG} {tc:TT} {te:TE} {i:Nat} {x:Str} (N':List Str) (ix:List (Option Nat))
    (hcalm:X.calm=true) (hN:X.N.Nodup) (hx:X.N[i]? = some x) (hl:X.env.scope.names.lookup x=some .local)
    (hi:PI X target iter wi) (hk:oJ X.env.scope.names X.N sc N' ix=true)
    (hg:∀ cl C s H fp,PG (blk X sc cl C N' s H fp) target g) (hc:∀ cl C s H fp,PF (blk X sc cl C N' s H fp) ifs tc) (he:∀ cl C s H fp,PE (blk X sc cl C N' s H fp) elt te)
    (hsw:swapsWith (.ListComp elt [⟨target,iter,ifs,0⟩] sc pos) (some (.Name x pos')) spos.line X.env=pure true:=by rfl)
    (hs:∀ x,foldedSetIterable iter X.env x=pure x:=by intro _; rfl):PS X (.Assign [.Name x pos'] (.ListComp elt [⟨target,iter,ifs,0⟩] sc pos) spos) (yO (uT ix wi g tc te) (fI i)):=by
  intro pins s σ H D I h
  rw [exec_Assign_Name_used _ _ _ _ hsw]
  refine wpAny_bind (wpAny_standAt (wpAny_bind ?_))
  show wpAny _ X.A (do let _ ← comprehension (.ListComp elt [⟨target,iter,ifs,0⟩] sc pos) sc X.env _ (newList []) false (eval iter X.env) (some (assign (.Name x pos') X.env))) _ _ s
  refine wpAny_bind (wpAny_mono (lV (Q:=fun v H1=>D.nx (σ.set i (some v)) H1) (Q2:=fun _ s'=>SP X pins D .next s') hcalm hi hk hg hc he hs (fun s4 H3 acc C ys oC I4 ns hC hc hp q => ?_) I h) (fun _ s' q=>wpAny_pure (wpAny_pure q)) fun _ _ e=>e)
  obtain ⟨m,ns⟩:=ns
  obtain ⟨e0,n0,n1,n2,_⟩:=I4.pin (C,oC) (by simp)
  show wpAny _ X.A (assign (.Name x pos') X.env (.ref acc)) _ _ s4
  refine thn ((ak (i:=i) hN hx (.inl hl) (.inr hl)) (pins ++ [(C,oC)]) s4 σ _ (.ref acc) (.ref acc) _ I4 rfl q) fun _ s5 ⟨σ5,H5,I5,q5⟩ => ?_
  obtain ⟨e5,k0,k1,k2,_⟩:=I5.pin (C,oC) (by simp)
  obtain ⟨o',es',ep',c',r'⟩:=ns
  have e':=e0.symm.trans c'
  cases e'
  refine ⟨m,⟨_,es',ep',e5,r'⟩,fun h' sb=>⟨σ5,H5,?_,q5⟩⟩
  exact (I5.eE).turned (it:=C) (h':=h') (t':=s5.toks) (fun b o ne e=>by rw [sb.2 b ne]; exact e) k0 k1 (.inr hC) hc hp
end
open PySem PySem.Spec PyProof.Rows
section
variable {X:Cx} {sc:Scope} {N':List Str} {ix:List (Option Nat)} {pins:List (Addr × Obj)} {σ:St} {H:Hp} {s:Shared}
end
section
variable {X:Cx}
end
open PySem PySem.Spec PyProof.Rows
section
variable {X:Cx}
theorem nC {j:Int} (h0:0 < j) (h:j < 2 ^ 200):j.natAbs.log2 < 9000:=by
 have h1:j.natAbs < 2 ^ 200:=by omega
 have h2:j.natAbs.log2 < 200:=(Nat.log2_lt (by omega)).mpr h1
 omega
def Aq (_ j:Int):Prop:=0 < j/\j < 2 ^ 200
theorem aF:bJ X (.builtin "divmod") (fun xs H Q=>∃ i j,xs=[.int i,.int j]/\Aq i j/\∀ p,H p=none->Q (.ref p) (upd H p (.tup [.int (i / j),.int (i % j)]))):=by
 intro pins s σ H xs us Q I r h
 obtain ⟨i,j,rfl,⟨h1,h2⟩,q⟩:=h
 obtain ⟨u,w',rfl,⟨t,rfl⟩,⟨t',rfl⟩⟩:=vals2 r
 refine divmod_int (by omega) ?_ (.inl (PyProof.noPylong_of_log2 (nC h1 h2)))
 rw [EF i (by omega),EG i (by omega)]
 refine ⟨.ref s.heap.objs.size,_,?_,rfl,q _ I.fresh⟩
 refine I.laid (fun b o e=>AN _ e) (AS _) ⟨by simp only [Bn,CB]; rw [sizeLine_eq]; decide,[.int (i / j) s.toks,.int (i % j) (s.toks + 1)],.cons ⟨_,rfl⟩ (.cons ⟨_,rfl⟩ .nil),?_⟩
 exact ⟨_,A0 s.heap rfl,⟨rfl,rfl⟩,0,rfl⟩
def Ar (K:PySem.W.Frag):R2:=fun x y H Q=>∃ l b xs zs,x = .ref l/\y = .ref b/\SqL K H l xs/\SqL K H b zs/\xs.length + zs.length<=sizeLine/\∀ p,H p=none->Q (.ref p) (upd H p (.lst (xs ++ zs)))
theorem jC:OpR X (binaryOp .Add) (Ar X.K):=by
 intro pins s σ H x y v u Q I rx ry h
 obtain ⟨l,b,xs,zs,rfl,rfl,hH,hB,hz,q⟩:=h
 cases rx
 cases ry
 obtain ⟨its,r,e,z⟩:=I.list hH
 obtain ⟨its2,r2,e2,z2⟩:=I.list hB
 obtain ⟨⟨c1,d1,da1,sl1⟩,n,e,k1,k2,k3⟩:=e
 obtain ⟨⟨c2,d2,da2,sl2⟩,n2,e2,g1,g2,g3⟩:=e2
 simp only at k1 k3 g1 g3
 subst k1 k3 g1 g3
 have l1:=r.length
 have l2:=r2.length
 have ea:its.toArray ++ its2.toArray=(its ++ its2).toArray:=by simp
 refine concat_meets ⟨_,e,rfl⟩ ⟨_,e2,rfl⟩ noFill_list_add seq_list_add PySem.F.slot_list_add PySem.F.entry_list_add
  (PySem.F.args_list_add_2 _ _) (list_addW l b its.toArray its2.toArray n n2 d1 d2 sl1 sl2 (by rw [AR,AR]; omega)) ⟨e,e2,?_⟩
 rw [ea]
 exact ⟨.ref _,_,I.Ao (t':=s.toks) (r.append r2) (by rw [AQ]; omega),rfl,q _ I.fresh⟩
theorem dS:bJ X (.builtin "isinstance") (fun xs H Q=>∃ x T t b,xs=[x,.ty T]/\h8 X.K H x t/\PySem.W.kitOne X.K t (.type T)=some b/\Q (.bl b) H):=by
 intro pins s σ H xs us Q I r h
 obtain ⟨x,T,t,b,rfl,ty,e,q⟩:=h
 obtain ⟨u,w',rfl,ru,rw'⟩:=vals2 r
 cases (show w'=Value.type T from rw')
 exact sT I ru ty e fun tk=>⟨.bl b,H,I.tok tk,rfl,q⟩
end
def rL (k:Nat) (tc:TT) (te:TE) (τ : St) (Pv:Nat->List V->Hp->Prop) (i:Nat) (x:V) (ys:List V) (H:Hp):Prop :=
 ∀ (R1:V->Hp->Prop) (R0:Hp->Prop),(∀ y H4,Pv (i + 1) (ys ++ [y]) H4->R1 y H4)->(∀ H3,Pv (i + 1) ys H3->R0 H3)->tc (τ.set k (some x)) H fun b H3=>if b=true then te (τ.set k (some x)) H3 R1 else R0 H3
theorem cq {K:PySem.W.Frag} {a:Addr} {xs:List V} {k:Nat} {tc:TT} {te:TE} {τ : St} {H:Hp} {Q:VK} (Pv:Nat->List V->Hp->Prop) (h0:Pv 0 [] H) (hz:xs.length<=sizeLine)
  (hl:∀ i ys H,i<=xs.length->Pv i ys H->SqL K H a xs) (hs:∀ i x ys H,xs[i]? = some x->ys.length<=i->Pv i ys H->rL k tc te τ Pv i x ys H)
  (hd:∀ ys H,ys.length<=xs.length->Pv xs.length ys H->∀ l,H l=none->Q (.ref l) (upd H l (.lst ys))) :
  j1 (Itl K a) (fI k) tc te τ Q H:=by
 refine ⟨fun i m σ ys H=>m=xs.length - i/\i<=xs.length/\(∀ x,σ.set k (some x) = τ.set k (some x))/\ys.length<=i/\Pv i ys H,⟨xs.length,by simp,Br _,fun _=>rfl,AS _,h0⟩,?_⟩
 rintro i m σ ys H ⟨rfl,hi,hτ,hy,p⟩
 have q:=hl i ys H hi p
 by_cases hlt:i < xs.length
 ·refine .inr ⟨⟨xs,xs[i],q,by simp [hlt]⟩,fun x H' y => ?_⟩
  obtain ⟨e,y⟩:=y
  subst e
  show tc (σ.set k (some x)) _ _
  rw [hτ x]
  have hσ:∀ z,(τ.set k (some x)).set k (some z) = τ.set k (some z):=fun z=>by rw [EN]
  refine hs i x ys _ (y xs q) hy p _ _ (fun y4 H4 p4=>⟨by omega,xs.length - (i + 1),by omega,rfl,hlt,hσ,by rw [AQ,BV]; omega,p4⟩) fun H3 p3=>⟨xs.length - (i + 1),by omega,rfl,hlt,hσ,by omega,p3⟩
 ·have e:i=xs.length:=by omega
  subst e
  exact .inl ⟨⟨xs,q,AS _⟩,by omega,hd ys H hy p⟩
theorem iR {K:PySem.W.Frag} {a:Addr} {xs:List V} {k:Nat} {tc:TT} {te:TE} {τ : St} {H:Hp} {Q:VK} (Pv:Nat->List V->Hp->Prop) (h0:Pv 0 [] H) (hz:xs.length<=sizeLine)
  (hl:∀ i ys H,i<=xs.length->Pv i ys H->SqT K H a xs) (hs:∀ i x ys H,xs[i]? = some x->ys.length<=i->Pv i ys H->rL k tc te τ Pv i x ys H)
  (hd:∀ ys H,ys.length<=xs.length->Pv xs.length ys H->∀ l,H l=none->Q (.ref l) (upd H l (.lst ys))) :
  j1 (Itt K a) (fI k) tc te τ Q H:=by
 refine ⟨fun i m σ ys H=>m=xs.length - i/\i<=xs.length/\(∀ x,σ.set k (some x) = τ.set k (some x))/\ys.length<=i/\Pv i ys H,⟨xs.length,by simp,Br _,fun _=>rfl,AS _,h0⟩,?_⟩
 rintro i m σ ys H ⟨rfl,hi,hτ,hy,p⟩
 have q:=hl i ys H hi p
 by_cases hlt:i < xs.length
 ·refine .inr ⟨⟨xs,xs[i],q,by simp [hlt]⟩,fun x H' y => ?_⟩
  obtain ⟨e,y⟩:=y
  subst e
  show tc (σ.set k (some x)) _ _
  rw [hτ x]
  have hσ:∀ z,(τ.set k (some x)).set k (some z) = τ.set k (some z):=fun z=>by rw [EN]
  refine hs i x ys _ (y xs q) hy p _ _ (fun y4 H4 p4=>⟨by omega,xs.length - (i + 1),by omega,rfl,hlt,hσ,by rw [AQ,BV]; omega,p4⟩) fun H3 p3=>⟨xs.length - (i + 1),by omega,rfl,hlt,hσ,by omega,p3⟩
 ·have e:i=xs.length:=by omega
  subst e
  exact .inl ⟨⟨xs,q,AS _⟩,by omega,hd ys H hy p⟩
theorem cJ {lo:Int} {n:Nat} {k:Nat} {tc:TT} {te:TE} {τ : St} {H:Hp} {Q:VK} (Pv:Nat->List V->Hp->Prop) (h0:Pv 0 [] H) (hz:n<=sizeLine)
  (hs:∀ i ys H,i < n->ys.length<=i->Pv i ys H->rL k tc te τ Pv i (.int (lo + i)) ys H)
  (hd:∀ ys H,ys.length<=n->Pv n ys H->∀ l,H l=none->Q (.ref l) (upd H l (.lst ys))) :
  j1 (Itr lo n) (fI k) tc te τ Q H:=by
 refine ⟨fun i m σ ys H=>m=n - i/\i<=n/\(∀ x,σ.set k (some x) = τ.set k (some x))/\ys.length<=i/\Pv i ys H,⟨n,by simp,Br _,fun _=>rfl,AS _,h0⟩,?_⟩
 rintro i m σ ys H ⟨rfl,hi,hτ,hy,p⟩
 by_cases hlt:i < n
 ·refine .inr ⟨hlt,fun x H' y => ?_⟩
  obtain ⟨e,y⟩:=y
  subst e y
  show tc (σ.set k (some (.int (lo + i)))) _ _
  rw [hτ]
  have hσ:∀ z,(τ.set k (some (.int (lo + i)))).set k (some z) = τ.set k (some z):=fun z=>by rw [EN]
  refine hs i ys _ hlt hy p _ _ (fun y4 H4 p4=>⟨by omega,n - (i + 1),by omega,rfl,hlt,hσ,by rw [AQ,BV]; omega,p4⟩) fun H3 p3=>⟨n - (i + 1),by omega,rfl,hlt,hσ,by omega,p3⟩
 ·have e:i=n:=by omega
  subst e
  exact .inl ⟨AS _,by omega,hd ys H hy p⟩
structure Cal (P:Program) (w:World) (K:PySem.W.Frag) (mg:Str->Option Value) (base:Heap) (k:Nat) (x:Str) (ps:List Str) (sp:Sp):Prop where
 ex:∃ f fd,cB P w K mg base CX0 k f fd ps sp/\mg x=some (.ref f)/\PySem.W.keepIn K (.ref f)=true/\Binds K fd ps []
theorem bz {X:Cx} {j k:Nat} {x:Str} {ps:List Str} {sp:Sp} {e:Expr} {es:List Expr} {t:TA} {p pos:Pos} (C:Cal X.prog X.w X.K X.mg X.base k x ps sp) (hr:du j X.A) (hj:k<=j) (hg:Gl X x) (ha:PA X (e :: es) t)
  (hdb:(x == ("__debug__" : Str))=false:=by decide) (he:starEach (e :: es) X.env=(false,eval e X.env) :: starEach es X.env:=by rfl) (hpl:(backTo pos (starEach es X.env)).any (·.1)=false:=by rfl) :
  PE X (.Call (.Name x p) (e :: es) [] pos) (yg sp [] E0 t):=by
 obtain ⟨f,fd,F,m,kp,b⟩:=C.ex
 exact wL F (hr.mono hj) hg m kp b .nil Ap ha hdb he hpl
theorem ae {H:Hp} {p:Addr} (h:H p=none) (o:HO):aB H (upd H p o):=fun b u q=>by rw [aE (aD q h)]; exact q
theorem small {n:Nat} (h:n<=1000):n<=sizeLine:=DP (cf h)
open PySem PySem.Spec PyProof.Rows
section
variable {X:Cx}
theorem oK {its:List Value} {bs:List Bool} (h:Vals (bs.map V.bl) its) {prog:Program} {w:World} {A:Around}:TruthOf prog w A (fun i v=>its.toArray[i]? = some v) (fun i=>bs.getD i false):=by
 intro i v s Q E hv q
 have l:=h.length
 rw [AM] at l
 have hi:i < its.length:=by
  rw [Bs] at hv
  exact (AU.mp hv).1
 have e:(bs.map V.bl)[i]? = some (.bl (bs.getD i false)):=by
  rw [AX,AZ,AO (by omega)]
  rfl
 obtain ⟨u,e1,e2⟩:=h.get e
 rw [Bs,e1] at hv
 have ev:u=v:=Bb hv
 subst ev
 cases (show u=Value.bool _ from e2)
 exact wpAny_truthy_bool q
theorem all_range (bs:List Bool):((List.range bs.length).all fun i=>bs.getD i false)=bs.all id:=by
 rw [CM,CT,CT]
 constructor
 ·intro h x hx
  obtain ⟨i,e⟩:=Bt.mp hx
  have hi:i < bs.length:=(AU.mp e).1
  have q:=h i (BP.mpr hi)
  rw [AZ,e] at q
  exact q
 ·intro h i hi
  have hi':=BP.mp hi
  rw [AZ,AO hi']
  exact h _ (Dl hi')
theorem j2 (hc:X.calm=true):bJ X (.builtin "all") (fun xs H Q=>∃ (p:Addr) (bs:List Bool),xs=[.ref p]/\SqL X.K H p (bs.map V.bl)/\Q (.bl (bs.all id)) H):=by
 intro pins s σ H xs us Q I r h
 obtain ⟨p,bs,rfl,hs,q⟩:=h
 obtain ⟨u,rfl,ru⟩:=vals1 r
 cases (show u=Value.ref p from ru)
 obtain ⟨its,rv,pl,hz⟩:=I.list hs
 have l:=rv.length
 rw [AM] at l
 have hpl:p < s.heap.objs.size:=by obtain ⟨o,_,e,_⟩:=pl; exact A1 e
 refine call_all_walk (wpAny_pyIter_list pl.isList ?_)
 have hd:X.A.in1.handled=none:=I.ok.hd hc
 refine ⟨s.heap.objs.size,_,_,_,_,_,_,rfl,Gh hd s.heap.objs.size p (A5 hpl) its.toArray,⟨⟨_,A0 _ rfl,rfl,rfl⟩,?_⟩,oK rv,fun h' tk k => ?_⟩
 ·exact pl.isList.at fun o e=>AN _ e
 ·have e:((List.range its.toArray.size).all fun i=>bs.getD i false)=bs.all id:=by rw [AR, <- l,all_range]
  rw [e]
  refine ⟨.bl (bs.all id),H,I.kept (t':=tk) (fun b o eb=>k b o ?_ (AN _ eb)),rfl,q⟩
  intro hb
  have:b=s.heap.objs.size:=by simpa using hb
  exact absurd (A1 eb) (by rw [this]; exact BB _)
theorem lX {α β : Type} {F : α -> β -> Prop}:∀ {l:List α} {m:List β} {i:Nat} {x : α} {y : β},Paired F l m->l[i]? = some x->m[i]? = some y->F x y
 | _,_,0,_,_,.cons h _,e1,e2=>by simp at e1 e2; subst e1 e2; exact h
 | _,_,i + 1,_,_,.cons _ t,e1,e2=>lX (i:=i) t (by simpa using e1) (by simpa using e2)
 | _,_,_,_,_,.nil,e1,_=>by simp at e1
theorem all_true (n:Nat):((List.range n).all fun _=>true)=true:=by simp
end
open PySem PySem.Spec PyProof.Rows
def yi (K:PySem.W.Frag) (k l:Nat):TG:=z4 K 2 (uE (fI k) (uE (fI l) z3))
def As (k l:Nat) (tc:TT) (te:TE) (τ : St) (Pv:Nat->List V->Hp->Prop) (i:Nat) (a b:V) (ys:List V) (H:Hp):Prop :=
 ∀ (R1:V->Hp->Prop) (R0:Hp->Prop),(∀ y H4,Pv (i + 1) (ys ++ [y]) H4->R1 y H4)->(∀ H3,Pv (i + 1) ys H3->R0 H3)->tc ((τ.set k (some a)).set l (some b)) H fun c H3=>if c=true then te ((τ.set k (some a)).set l (some b)) H3 R1 else R0 H3
theorem j3 {K:PySem.W.Frag} {p:Addr} {ts:List (Addr × V × V)} {k l:Nat} {tc:TT} {te:TE} {τ : St} {H:Hp} {Q:VK} (Pv:Nat->List V->Hp->Prop) (hkl:k ≠ l) (h0:Pv 0 [] H) (hz:ts.length<=sizeLine)
  (hl:∀ i ys H,i<=ts.length->Pv i ys H->SqL K H p (ts.map fun t => .ref t.1)/\∀ t ∈ ts,SqT K H t.1 [t.2.1,t.2.2])
  (hs:∀ i t ys H,ts[i]? = some t->ys.length<=i->Pv i ys H->As k l tc te τ Pv i t.2.1 t.2.2 ys H)
  (hd:∀ ys H,ys.length<=ts.length->Pv ts.length ys H->∀ r,H r=none->Q (.ref r) (upd H r (.lst ys))):j1 (Itl K p) (yi K k l) tc te τ Q H:=by
 refine ⟨fun i m σ ys H=>m=ts.length - i/\i<=ts.length/\(∀ a b,(σ.set k (some a)).set l (some b)=(τ.set k (some a)).set l (some b))/\ys.length<=i/\Pv i ys H,⟨ts.length,by simp,Br _,fun _ _=>rfl,AS _,h0⟩,?_⟩
 rintro i m σ ys H ⟨rfl,hi,hτ,hy,pv⟩
 obtain ⟨q,qt⟩:=hl i ys H hi pv
 have ln:(ts.map fun t:Addr × V × V=>V.ref t.1).length=ts.length:=AM _
 by_cases hlt:i < ts.length
 ·have et:ts[i]? = some ts[i]:=AO hlt
  have em:(ts.map fun t:Addr × V × V=>V.ref t.1)[i]? = some (.ref ts[i].1):=by rw [AX,et]; rfl
  refine .inr ⟨⟨_,_,q,em⟩,fun x H' y => ?_⟩
  obtain ⟨e,y⟩:=y
  subst e
  have ex:=y _ q
  rw [em] at ex
  cases ex
  have st:=qt ts[i] (Dl hlt)
  refine ⟨ts[i].1,_,rfl,st,rfl,_,_,rfl,_,_,rfl,rfl,?_⟩
  rw [hτ]
  have hσ:∀ a b,((((τ.set k (some ts[i].2.1)).set l (some ts[i].2.2)).set k (some a)).set l (some b))=(τ.set k (some a)).set l (some b):=fun a b=>by
   rw [List.set_comm _ _ (BN hkl),EN,EN]
  refine hs i ts[i] ys _ et hy pv _ _ (fun y4 H4 p4=>⟨by omega,ts.length - (i + 1),by omega,rfl,hlt,hσ,by rw [AQ,BV]; omega,p4⟩) fun H3 p3=>⟨ts.length - (i + 1),by omega,rfl,hlt,hσ,by omega,p3⟩
 ·have e:i=ts.length:=by omega
  subst e
  exact .inl ⟨⟨_,q,by rw [ln]; exact AS _⟩,by omega,hd ys H hy pv⟩
open PySem PySem.Spec PyProof.Rows
section
variable {X:Cx} {K:PySem.W.Frag}
theorem j4 (h:X.K=K:=by rfl):IxR X (Ak K):=by subst h; exact cH
theorem wZ (h:X.K=K:=by rfl):IxR X (Am K):=by subst h; exact aM
end
open PySem PySem.Spec PyProof.Rows
theorem Inv.j5 {X:Cx} {pins:List (Addr × Obj)} {σ:St} {H:Hp} {s:Shared} {h':Heap} {t':Nat} {ch:List Addr} {T:Addr} {o:HO} (I:Inv X pins σ H s) (f:∀ b ∈ ch,jw X pins H b)
  (k:∀ b ob,b ∉ ch->s.heap.get? b=some ob->h'.get? b=some ob) (th:∀ b ∈ ch,∃ ob,h'.get? b=some ob) (hT:s.heap.objs.size<=T) (new:bA X.prog X.w (upd H T o) h' T o):Inv X pins σ (upd H T o) { s with heap:=h',toks:=t' }:=by
 have hn:H T=none:=I.hok.fresh hT
 have nT:∀ b ob,s.heap.get? b=some ob->b ≠ T:=fun b ob e=>A5 (Ba (A1 e) hT)
 refine I.step (g':=s.gens) (d':=s.drawn) (ch:=ch) (fun b hb => ?_) (fun b ob _ _ hc e _=>k b ob hc e) (fun b ob _ _ hc e _=>⟨ob.slots,k b ob hc e⟩) (fun b ob _ e n=>by rw [aE (nT b ob e)]; exact n)
  (fun b ob hc e=>⟨ob,k b ob hc e⟩) (fun b xs e=>by rw [aE (aD e hn)]; exact e) (fun b ob u e=>by rw [aE (aD e hn)]; exact e) (fun b ps e=>⟨#[],by rw [aE (aD e hn),e]; simp⟩) (fun m hm => ?_) (fun b u e => ?_) I.bare
 ·obtain ⟨g0,g1,g2,g3,g4,g5⟩:=f b hb
  exact ⟨g3,g1,g4,g5⟩
 ·obtain ⟨ob,es,ep,ho,r⟩:=hm
  exact ⟨ob,es,ep,k _ ob (fun z=>(f _ z).2.1 rfl) ho,r⟩
 ·by_cases hb:b=T
  ·subst hb
   rw [af] at e
   cases e
   exact new
  ·rw [aE hb] at e
   refine (I.hok b u e).stay (fun c v hc q=>k c v ?_ q) (fun c q=>by rw [aE (aD q hn)]; exact q) fun c xs q=>by rw [aE (aD q hn)]; exact q
   intro z
   have n0:=(f c z).1
   rcases hc with hc | hc
   ·rw [hc,e] at n0; cases n0
   ·rw [hc] at n0; cases n0
def Ite (K:PySem.W.Frag) (a:Addr):It :=
 ⟨fun i H=>∃ xs v,SqL K H a xs/\xs[i]? = some v,fun i H x H'=>∃ T v,H T=none/\x = .ref T/\H'=upd H T (.tup [.int i,v])/\∀ xs,SqL K H a xs->xs[i]? = some v,fun i H=>∃ xs,SqL K H a xs/\xs.length<=i⟩
theorem tf {P:Program} {w:World} {K:PySem.W.Frag} {elts:List Expr} {k:Nat} {pos:Pos} (a e it:Addr) (hne:e ≠ it):Turn P w K (.Tuple elts k pos) (Ite K a) [e,it] e (fun i h=>(∃ old,IsEnum h e it i old)/\h.IsListIter it a i) where
 mem:=by simp
 obj:=fun i h ⟨⟨old,h1⟩,h2⟩ b hb=>by
  rcases A6.mp hb with q | q
  ·subst q
   exact ⟨_,h1,fun v z=>nomatch z⟩
  ·have q':b=it:=by simpa using q
   subst q'
   obtain ⟨o,ho,_,hd⟩:=h2
   exact ⟨o,ho,fun v z=>by rw [hd] at z; cases z⟩
 keep:=fun i h h' ⟨⟨old,h1⟩,h2⟩ kp=>⟨⟨old,kp e (by simp) _ h1⟩,h2.at fun o x=>kp it (by simp) o x⟩
 item:=fun X eP eW eK hcalm i pins s σ H E I f ⟨⟨old,h1⟩,h2⟩ go=>by
  subst eP eW eK
  obtain ⟨xs,v,hs,hv⟩:=go
  obtain ⟨its,r,pl,hz⟩:=I.list hs
  obtain ⟨u,eu,ru⟩:=r.get hv
  refine wpAny_pyNext_enum_item h1 h2 pl.isList (x:=u) (by rw [Bs]; exact eu) hne fun h' o1 o2 o3 o4 kp => ?_
  refine ⟨_,rfl,?_⟩
  refine wpAny_letOwnedTupleGo_enum o1 fun h2' e2 sb => ?_
  have eT:e ≠ s.heap.objs.size:=A5 (A1 h1)
  have kp2:∀ b ob,b ∉ [e,it]->s.heap.get? b=some ob->h2'.get? b=some ob:=fun b ob hb eb=>by
   have n1:b ≠ e:=fun z=>hb (by simp [z])
   have n2:b ≠ it:=fun z=>hb (by simp [z])
   rw [sb.2 b n1]
   exact kp b ob n1 n2 eb
  have li:h2'.IsListIter it a (i + 1):=o2.at fun ob eb=>by rw [sb.2 it (BN hne)]; exact eb
  have tp:h2'.get? s.heap.objs.size=some { cls := .type "tuple",data := .seq #[.int i s.toks,u] }:=by rw [sb.2 _ (BN eT)]; exact o3
  refine ⟨.ref s.heap.objs.size,upd H s.heap.objs.size (.tup [.int i,v]),I.j5 (ch:=[e,it]) f kp2 (fun b hb => ?_) (AS _) ?_,rfl,⟨s.heap.objs.size,v,I.hok.fresh (AS _),rfl,rfl,fun ys hy => ?_⟩,⟨⟨_,e2⟩,li⟩,fun b hb => ?_⟩
  ·rcases A6.mp hb with q | q
   ·subst q; exact ⟨_,e2⟩
   ·have q':b=it:=by simpa using q
    subst q'
    obtain ⟨ob,ho,_⟩:=li
    exact ⟨ob,ho⟩
  ·refine ⟨(by show 2<=sizeLine; decide),[.int i s.toks,u],.cons ⟨_,rfl⟩ (.cons ru .nil),_,tp,⟨rfl,rfl⟩,_,rfl⟩
  ·rw [I.oA hy hs]; exact hv
  ·have ne:b ≠ s.heap.objs.size:=by
    rcases A6.mp hb with q | q
    ·rw [q]; exact eT
    ·have q':b=it:=by simpa using q
     rw [q']
     obtain ⟨ob,ho,_⟩:=h2
     exact A5 (A1 ho)
   rw [aE ne]
   exact (f b hb).1
 done:=fun X eP eW eK hcalm i pins s σ H E I f ⟨⟨old,h1⟩,h2⟩ stop=>by
  subst eP eW eK
  obtain ⟨xs,hs,hl⟩:=stop
  obtain ⟨its,r,pl,hz⟩:=I.list hs
  have l:=r.length
  refine wpAny_pyNext_enum_end (I.ok.hd hcalm) h1 h2 pl.isList (by rw [Bs]; exact CA.mpr (by omega)) fun h' ex=>⟨rfl,?_⟩
  obtain ⟨g0,g1,g2,g3,g4,g5⟩:=f it (by simp)
  exact I.turned (it:=it) (h':=h') (t':=s.toks) (fun b o ne eb=>ex b o ne eb) g0 g1 g3 g4 g5
 self:=fun A i s Q E ⟨⟨old,h1⟩,_⟩ q=>by
  refine wpAny_pyIter_slot ⟨_,h1,rfl⟩ Dt (wpAny_call_entry Dt ⟨_,h1,rfl⟩ Fo ?_ (Fe _))
  show wpAny _ _ (ret (.ref e)) _ _ s
  exact wpAny_pure ⟨_,rfl, "enumerate",_,⟨_,h1,rfl⟩,Du.lookup,q⟩
open PySem PySem.Spec PyProof.Rows
open PySem.AutoSeq1 (wpAny_loadPart')
section
variable {prog:Program} {w:World} {A:Around} {E:Value->Shared->Prop} {s:Shared}
theorem qx {it t:Addr} {i:Nat} {items:Array Value} {x:Value} {Q:Value->Shared->Prop} (hi:s.heap.IsTupleIter it t i) (hl:s.heap.IsTuple t items) (hx:items[i]? = some x)
  (q:∀ h',h'.IsTupleIter it t (i + 1)->Heap.SameBut it s.heap h'->Q x { s with heap:=h' }):wpAny (model prog w) A (Builtin.SmallTypes.nextOf (.ref it)) Q E s:=by
 obtain ⟨o,eo,oc,od⟩:=id hi
 obtain ⟨ol,el,_,nl,dl⟩:=hl
 unfold Builtin.SmallTypes.nextOf
 refine wpAny_bind (wpAny_callSpecial?_slot (name:=Str.ofString "__next__") hi.typeIs CQ (wpAny_call_entry CQ hi.typeIs ED ?_ (Ez _)))
 show wpAny _ _ (field (.ref it) 0 >>= _) _ _ s; refine wpAny_bind (wpAny_field eo od (x := .ref t) rfl ?_)
 show wpAny _ _ (if (Value.ref t == Value.none)=true then _ else _) _ _ s; rw [if_neg (show ¬ ((Value.ref t == Value.none)=true) from A9)]
 show wpAny _ _ (field (.ref it) 1 >>= _) _ _ s; refine wpAny_bind (wpAny_field eo od (x := .int i 0) rfl ?_)
 show wpAny _ _ (seqItems? (.ref t) >>= _) _ _ s; refine wpAny_bind (wpAny_seqItems el dl ?_)
 simp only [BO,hx]; refine wpAny_bind (wpAny_setField eo od (by simp) (wpAny_pure ⟨x,rfl,wpAny_pure (q _ ?_ (DK ..))⟩))
 exact ⟨_,Bv _ eo (Ek (CW od _)),(Gi ..).trans oc,by rw [CW od]; simp [rawInt]⟩
theorem fK {it t:Addr} {i:Nat} {items:Array Value} {Q:Value->Shared->Prop} (hh:A.handled=none) (hi:s.heap.IsTupleIter it t i) (hl:s.heap.IsTuple t items) (hx:items[i]? = none)
  (q:∀ h' e,Heap.ExtBut it s.heap h'->(∃ o,h'.get? e=some o/\o.cls = .type "StopIteration")->E (.ref e) { s with heap:=h' }):wpAny (model prog w) A (Builtin.SmallTypes.nextOf (.ref it)) Q E s:=by
 obtain ⟨o,eo,oc,od⟩:=id hi
 obtain ⟨ol,el,_,nl,dl⟩:=hl
 unfold Builtin.SmallTypes.nextOf
 refine wpAny_bind (wpAny_callSpecial?_slot (name:=Str.ofString "__next__") hi.typeIs CQ (wpAny_call_entry CQ hi.typeIs ED ?_ (Ez _)))
 show wpAny _ _ (field (.ref it) 0 >>= _) _ _ s; refine wpAny_bind (wpAny_field eo od (x := .ref t) rfl ?_)
 show wpAny _ _ (if (Value.ref t == Value.none)=true then _ else _) _ _ s; rw [if_neg (show ¬ ((Value.ref t == Value.none)=true) from A9)]
 show wpAny _ _ (field (.ref it) 1 >>= _) _ _ s; refine wpAny_bind (wpAny_field eo od (x := .int i 0) rfl ?_)
 show wpAny _ _ (seqItems? (.ref t) >>= _) _ _ s; refine wpAny_bind (wpAny_seqItems el dl ?_)
 simp only [BO,hx]; refine wpAny_bind (wpAny_rule (wpAny_bind (wpAny_setField eo od (by simp) ?_)))
 show wpAny _ _ (newExc (.type "StopIteration") [] >>= _) _ _ _; refine wpAny_bind ?_
 simp only [newExc,newTuple]; refine wpAny_bind (wpAny_newObj_type ?_ (by size_fits))
 refine wpAny_bind (m:=firstArgMember _ _) (wpAny_of_eq (a:=Value.none) (by first | rfl | (simp only [firstArgMember]; rfl)) ?_); refine wpAny_newObj_type ?_ (by size_fits)
 simp only [raiseNew]; refine wpAny_bind (wpAny_handled ?_)
 first | (rw [show A.in1.handled=none from hh]) | (rw [hh])
 refine wpAny_bind (wpAny_pure (wpAny_throw ?_)); exact q _ _ (((DK ..).extBut.push _).push _) ⟨_,A0 _ rfl,rfl⟩
theorem tj (hh:A.handled=none) (it l:Addr) (hne:l ≠ it) (items:Array Value) :
  Draws prog w A it [it,l] items.size (fun i v=>items[i]? = some v) (fun i h=>h.IsTupleIter it l i/\h.IsTuple l items) where
 live:=fun _ _ st=>by obtain ⟨o,ho,_⟩:=st.1; exact ⟨o,ho⟩
 frame:=fun _ _ _ st hk=>⟨st.1.at fun o e=>hk it (by simp) o e,by obtain ⟨o,e,r⟩:=st.2; exact ⟨o,hk l (by simp) o e,r⟩⟩
 item:=fun i s Q E hi st hQ=>by
  refine qx st.1 st.2 (x:=items[i]) (by simp [hi]) fun h' hit' hs' => ?_
  obtain ⟨o,e,r⟩:=st.2
  exact hQ _ h' s.toks (by simp [hi]) ⟨hit',o,by rw [hs'.2 l hne]; exact e,r⟩ hs'
 done:=fun s Q E st hE=>fK hh st.1 st.2 (by simp) hE
theorem nE (l:Addr) (items:Array Value) (n:Nat) (dct:Option Addr) (sl:Array (Option Value)) :
  Meets (Builtin.«enumerate.__new__» ⟨[.type "enumerate",.ref l],[]⟩) (fun _ R s=>s.heap.get? l=some { cls := .type "tuple",dict:=dct,data := .seq items n,slots:=sl } ∧
   R (.ok (.ret (.ref (s.heap.push { cls := .type "tuple_iterator",data := .fields #[.ref l,.int 0 0] }).objs.size)))
    { s with heap:=(s.heap.push { cls := .type "tuple_iterator",data := .fields #[.ref l,.int 0 0] }).push { cls := .type "enumerate",data := .fields #[.none,.bool false,.ref s.heap.objs.size,rawInt 0,.none,.none] } }) :=
 .of_wp fun prog w A R s h=>by
  obtain ⟨hp,g,d,tk,os⟩:=s; obtain ⟨hl,h⟩:=h
  have hsub:=sub_enumerate
  have hT:Heap.IsTuple (Shared.heap ⟨hp,g,d,tk,os⟩) l items:=⟨_,hl,rfl,n,rfl⟩
  wp_walk using wpAny_loadPart' hl
  refine wpAny_stack_any fun st=>wpAny_pure ?_
  split
  ·rename_i c _ _ _ _ _
   cases (c == Value.type "enumerate") <;> (wp_walk using wpAny_loadPart' hl,wpAny_pyIter_tuple hT; exact ⟨_,rfl,h⟩)
  ·wp_walk using wpAny_loadPart' hl,wpAny_pyIter_tuple hT; exact ⟨_,rfl,h⟩
theorem lD {l:Addr} {items:Array Value} {Q:Value->Shared->Prop} (hL:s.heap.IsTuple l items)
  (h:∀ h',IsEnum h' (s.heap.objs.size + 1) s.heap.objs.size 0 .none->h'.IsTupleIter s.heap.objs.size l 0->h'.objs.size=s.heap.objs.size + 2->(∀ b o,s.heap.get? b=some o->h'.get? b=some o)->Q (.ref (s.heap.objs.size + 1)) { s with heap:=h' }) :
  wpAny (model prog w) A (call (.type "enumerate") [.ref l]) Q E s:=by
 obtain ⟨⟨c,dct,dt,sl⟩,hl,hc,n,hd⟩:=hL
 replace hc:c = .type "tuple" := hc
 replace hd:dt = .seq items n:=hd
 subst hc hd
 refine callType_new F.called_enumerate (by decide) (F.typeCall_enumerate_1 _) (F.newCall_enumerate_1 _) (fun obj=>F.args_object_init_2 obj _) F.entry_enumerate_new (nE l items n dct sl) ⟨hl,?_⟩
 have hz:(s.heap.push { cls := .type "tuple_iterator",data := .fields #[.ref l,.int 0 0] }).objs.size=s.heap.objs.size + 1:=B4 ..
 show _/\_
 rw [hz]
 have he:IsEnum ((s.heap.push { cls := .type "tuple_iterator",data := .fields #[.ref l,.int 0 0] }).push { cls := .type "enumerate",data := .fields #[.none,.bool false,.ref s.heap.objs.size,rawInt 0,.none,.none] }) (s.heap.objs.size + 1) s.heap.objs.size 0 .none:=by
  have:=A0 (s.heap.push { cls := .type "tuple_iterator",data := .fields #[.ref l,.int 0 0] }) (o:={ cls := .type "enumerate",data := .fields #[.none,.bool false,.ref s.heap.objs.size,rawInt 0,.none,.none] }) rfl
  rw [hz] at this; exact this
 exact ⟨⟨_,he,rfl⟩,h _ he ⟨_,AN _ (A0 _ rfl),rfl,rfl⟩ (by rw [B4,hz]) fun b o x=>AN _ (AN _ x)⟩
end
theorem fj {prog:Program} {w:World} {A:Around} {E:Value->Shared->Prop} {s:Shared} {e it t:Addr} {i:Nat} {items:Array Value} {old:Value} {Q:Option Value->Shared->Prop} (hh:A.in1.handled=none) (he:IsEnum s.heap e it i old) (hi:s.heap.IsTupleIter it t i)
  (hl:s.heap.IsTuple t items) (hx:items[i]? = none) (q:∀ h',Heap.ExtBut it s.heap h'->Q none { s with heap:=h' }):wpAny (model prog w) A (pyNext (.ref e)) Q E s:=by
 have hT:s.TypeIs (.ref e) "enumerate" := ⟨_,he,rfl⟩
 unfold pyNext
 refine wpAny_bind (wpAny_attempt (wpAny_callSpecial?_slot (name:=Str.ofString "__next__") hT Du (wpAny_call_entry Du hT F.entry_enumerate_next ?_ (F.args_enumerate_next_1 _))))
 show wpAny _ _ (field (.ref e) 2 >>= _) _ _ _; refine wpAny_bind (wpAny_field he rfl (x := .ref it) rfl ?_)
 refine wpAny_bind (fK hh hi hl hx fun h' x he' hx' => ?_)
 obtain ⟨o,ho,hc⟩:=hx'
 refine wpAny_bind (wpAny_isInstance (T := "StopIteration") (b:=true) ⟨o,ho,hc⟩ isSubtype_stop ?_); exact wpAny_pure (q _ he')
def ItE (K:PySem.W.Frag) (a:Addr):It :=
 ⟨fun i H=>∃ xs v,SqT K H a xs/\xs[i]? = some v,fun i H x H'=>∃ T v,H T=none/\x = .ref T/\H'=upd H T (.tup [.int i,v])/\∀ xs,SqT K H a xs->xs[i]? = some v,fun i H=>∃ xs,SqT K H a xs/\xs.length<=i⟩
theorem qy {P:Program} {w:World} {K:PySem.W.Frag} {elts:List Expr} {k:Nat} {pos:Pos} (a e it:Addr) (hne:e ≠ it) (hai:a ≠ it) (hae:a ≠ e):Turn P w K (.Tuple elts k pos) (ItE K a) [e,it] e (fun i h=>(∃ old,IsEnum h e it i old)/\h.IsTupleIter it a i) where
 mem:=by simp
 obj:=fun i h ⟨⟨old,h1⟩,h2⟩ b hb=>by
  rcases A6.mp hb with q | q
  ·subst q
   exact ⟨_,h1,fun v z=>nomatch z⟩
  ·have q':b=it:=by simpa using q
   subst q'
   obtain ⟨o,ho,_,hd⟩:=h2
   exact ⟨o,ho,fun v z=>by rw [hd] at z; cases z⟩
 keep:=fun i h h' ⟨⟨old,h1⟩,h2⟩ kp=>⟨⟨old,kp e (by simp) _ h1⟩,h2.at fun o x=>kp it (by simp) o x⟩
 item:=fun X eP eW eK hcalm i pins s σ H E I f ⟨⟨old,h1⟩,h2⟩ go=>by
  subst eP eW eK
  obtain ⟨xs,v,hs,hv⟩:=go
  obtain ⟨its,r,pl,hz⟩:=I.tuple hs
  obtain ⟨u,eu,ru⟩:=r.get hv
  have hi:i < its.toArray.size:=by rw [AR]; exact (AU.mp eu).1
  have hd:X.A.in1.handled=none:=I.ok.hd hcalm
  refine wpAny_pyNext_enum_itemD (tj hd it a hai its.toArray) h1 ⟨h2,(show s.heap.IsTuple a its.toArray from pl)⟩ hi hne (by simp [hne,BN hae]) fun x h' tk px o1 o2 o3 o4 kp => ?_
  rw [Bs,eu] at px
  have px':u=x:=Bb px
  subst px'
  refine ⟨_,rfl,?_⟩
  refine wpAny_letOwnedTupleGo_enum o1 fun h2' e2 sb => ?_
  have eT:e ≠ s.heap.objs.size:=A5 (A1 h1)
  have kp2:∀ b ob,b ∉ [e,it]->s.heap.get? b=some ob->h2'.get? b=some ob:=fun b ob hb eb=>by
   have n1:b ≠ e:=fun z=>hb (by simp [z])
   have n2:b ≠ it:=fun z=>hb (by simp [z])
   rw [sb.2 b n1]
   exact kp b ob n1 n2 eb
  have li:h2'.IsTupleIter it a (i + 1):=o2.1.at fun ob eb=>by rw [sb.2 it (BN hne)]; exact eb
  have tp:h2'.get? s.heap.objs.size=some { cls := .type "tuple",data := .seq #[.int i tk,u] }:=by rw [sb.2 _ (BN eT)]; exact o3
  refine ⟨.ref s.heap.objs.size,upd H s.heap.objs.size (.tup [.int i,v]),I.j5 (ch:=[e,it]) f kp2 (fun b hb => ?_) (AS _) ?_,rfl,⟨s.heap.objs.size,v,I.hok.fresh (AS _),rfl,rfl,fun ys hy => ?_⟩,⟨⟨_,e2⟩,li⟩,fun b hb => ?_⟩
  ·rcases A6.mp hb with q | q
   ·subst q; exact ⟨_,e2⟩
   ·have q':b=it:=by simpa using q
    subst q'
    obtain ⟨ob,ho,_⟩:=li
    exact ⟨ob,ho⟩
  ·refine ⟨(by show 2<=sizeLine; decide),[.int i tk,u],.cons ⟨_,rfl⟩ (.cons ru .nil),_,tp,⟨rfl,rfl⟩,_,rfl⟩
  ·rw [I.iM hy hs]; exact hv
  ·have ne:b ≠ s.heap.objs.size:=by
    rcases A6.mp hb with q | q
    ·rw [q]; exact eT
    ·have q':b=it:=by simpa using q
     rw [q']
     obtain ⟨ob,ho,_⟩:=h2
     exact A5 (A1 ho)
   rw [aE ne]
   exact (f b hb).1
 done:=fun X eP eW eK hcalm i pins s σ H E I f ⟨⟨old,h1⟩,h2⟩ stop=>by
  subst eP eW eK
  obtain ⟨xs,hs,hl⟩:=stop
  obtain ⟨its,r,pl,hz⟩:=I.tuple hs
  have l:=r.length
  have hd:X.A.in1.handled=none:=I.ok.hd hcalm
  refine fj (A:=X.A) hd h1 h2 (show s.heap.IsTuple a its.toArray from pl) (by rw [Bs]; exact CA.mpr (by omega)) fun h' ex=>⟨rfl,?_⟩
  obtain ⟨g0,g1,g2,g3,g4,g5⟩:=f it (by simp)
  exact I.turned (it:=it) (h':=h') (t':=s.toks) (fun b o ne eb=>ex b o ne eb) g0 g1 g3 g4 g5
 self:=fun A i s Q E ⟨⟨old,h1⟩,_⟩ q=>by
  refine wpAny_pyIter_slot ⟨_,h1,rfl⟩ Dt (wpAny_call_entry Dt ⟨_,h1,rfl⟩ Fo ?_ (Fe _))
  show wpAny _ _ (ret (.ref e)) _ _ s
  exact wpAny_pure ⟨_,rfl, "enumerate",_,⟨_,h1,rfl⟩,Du.lookup,q⟩
open PySem PySem.Spec PyProof.Rows
def Au (K:PySem.W.Frag) (ta:TA):TI:=fun σ H R=>ta σ H fun vs H1=>∃ a,vs=[.ref a]/\(((∃ xs,SqL K H1 a xs)/\R (Ite K a) H1)\/((∃ xs,SqT K H1 a xs)/\R (ItE K a) H1))
section
variable {X:Cx}
theorem w4 {a:Expr} {ta:TA} {p pos pos':Pos} {elts:List Expr} {k:Nat} (hg:Gl X "enumerate") (hm:X.mg "enumerate" = none) (ha:PA X [a] ta) (hs:starEach [a] X.env=[(false,eval a X.env)]:=by rfl) :
  PI X (.Tuple elts k pos') (.Call (.Name "enumerate" p) [a] [] pos) (Au X.K ta):=by
 intro pins s σ H R I h
 refine Call_ (dk I hg hm boot_enumerate (BR (thn (ha pos pins s σ H _ I h) fun us s1 ⟨vs,H1,I1,r1,q1⟩ => ?_) hs rfl))
 obtain ⟨l,e,q1⟩:=q1
 subst e
 obtain ⟨u,rfl,ru⟩:=vals1 r1
 cases (show u=Value.ref l from ru)
 have fp:∀ b ∈ [s1.heap.objs.size + 1,s1.heap.objs.size],jw X pins H1 b:=fun b hb=>by
  have ge:s1.heap.objs.size<=b:=by
   rcases A6.mp hb with q | q
   ·rw [q]; exact EC _
   ·have q':b=s1.heap.objs.size:=by simpa using q
    rw [q']; exact AS _
  exact I1.uG ge (I1.hok.fresh ge)
 have ne:s1.heap.objs.size + 1 ≠ s1.heap.objs.size:=Ds (B2 _)
 rcases q1 with ⟨⟨xs,hq⟩,q⟩ | ⟨⟨xs,hq⟩,q⟩
 ·obtain ⟨its,rv,pl,hz⟩:=I1.list hq
  refine call_enumerate_list pl.isList fun h' he li _ kp => ?_
  have T:=tf (P:=X.prog) (w:=X.w) (K:=X.K) (elts:=elts) (k:=k) (pos:=pos') l _ _ ne
  refine T.self _ 0 _ _ _ ⟨⟨_,he⟩,li⟩ ?_
  exact ⟨_,_,_,_,H1,rfl,I1.kept (t':=s1.toks) kp,T,⟨⟨_,he⟩,li⟩,fp,q⟩
 ·obtain ⟨its,rv,pl,hz⟩:=I1.tuple hq
  have lt:l < s1.heap.objs.size:=by obtain ⟨o,e,_⟩:=pl; exact A1 e
  refine lD (show s1.heap.IsTuple l its.toArray from pl) fun h' he li _ kp => ?_
  have T:=qy (P:=X.prog) (w:=X.w) (K:=X.K) (elts:=elts) (k:=k) (pos:=pos') l _ _ ne (A5 lt) (A5 (BJ lt))
  refine T.self _ 0 _ _ _ ⟨⟨_,he⟩,li⟩ ?_
  exact ⟨_,_,_,_,H1,rfl,I1.kept (t':=s1.toks) kp,T,⟨⟨_,he⟩,li⟩,fp,q⟩
end
def ForW (J:It) (g:TG) (tb:TS) (D:Ends) (σ:St) (H:Hp):Prop:=∃ W:Nat->Nat->St->Hp->Prop,(∃ m,W 0 m σ H)/\∀ i m σ H,W i m σ H →
 (J.stop i H/\D.nx σ H)\/(J.go i H/\∃ N:St->Hp->Prop,(∀ σ' H',N σ' H'->∃ m',m' < m/\W (i + 1) m' σ' H')/\∀ x H',J.yld i H x H'->g x σ H' fun σ2 H2=>tb { D with nx:=N,ct:=N,bk:=D.nx } σ2 H2)
theorem tm {K:PySem.W.Frag} {a:Addr} {xs:List V} {g:TG} {tb:TS} {D:Ends} {σ:St} {H:Hp} (Pv:Nat->St->Hp->Prop) (h0:Pv 0 σ H) (hl:∀ i σ H,i<=xs.length->Pv i σ H->SqL K H a xs)
  (hs:∀ i x σ H T,xs[i]? = some x->H T=none->Pv i σ H->g (.ref T) σ (upd H T (.tup [.int i,x])) fun σ2 H2=>tb { D with nx:=Pv (i + 1),ct:=Pv (i + 1),bk:=D.nx } σ2 H2) (hd:∀ σ H,Pv xs.length σ H->D.nx σ H):ForW (Ite K a) g tb D σ H:=by
 refine ⟨fun i m σ H=>m=xs.length - i/\i<=xs.length/\Pv i σ H,⟨xs.length,by simp,Br _,h0⟩,?_⟩
 rintro i m σ H ⟨rfl,hi,p⟩
 have q:=hl i σ H hi p
 by_cases hlt:i < xs.length
 ·refine .inr ⟨⟨xs,xs[i],q,by simp [hlt]⟩,Pv (i + 1),fun σ' H' p'=>⟨xs.length - (i + 1),by omega,rfl,hlt,p'⟩,fun x H' y => ?_⟩
  obtain ⟨T,v,hT,ex,eH,hv⟩:=y
  subst ex eH
  exact hs i v σ H T (hv xs q) hT p
 ·have e:i=xs.length:=by omega
  subst e
  exact .inl ⟨⟨xs,q,AS _⟩,hd σ H p⟩
end L2
namespace Srt
open PySem PyProof.Rows
def gal:Bool->Keyed->Array Keyed->Nat->Nat->Nat->StateT SortSt Sem (Option Nat):=sortPriv% PySem.Builtin.gallop
def mLo:Array Keyed->Array Keyed->StateT SortSt Sem (Array Keyed):=sortPriv% PySem.Builtin.mergeLo
def mHi:Array Keyed->Array Keyed->StateT SortSt Sem (Array Keyed):=sortPriv% PySem.Builtin.mergeHi
def mAt:Nat->StateT SortSt Sem Bool:=sortPriv% PySem.Builtin.mergeAt
def yj:StateT SortSt Sem Unit:=sortPriv% PySem.Builtin.sortRuns
def ze:Nat->Nat->StateT SortSt Sem (Option Nat):=sortPriv% PySem.Builtin.countRun
def uU:Nat->Nat->Nat->StateT SortSt Sem Bool:=sortPriv% PySem.Builtin.binarySort
theorem zf (lf:Bool) (ky:Keyed) (ar:Array Keyed) (bs n ht:Nat):gal lf ky ar bs n ht=(do
    let far (i:Nat):StateT SortSt Sem (Option Bool):=do
      let z ← elem' ar (bs + i)
      if lf then lt' z ky else return (← lt' ky z).map (!·)
    let mut la:=0; let mut of:=1
    let mut lo:=0; let mut hi:=0
    let some rt ← far ht | return none
    if rt then
      let mx:=n - ht
      for _ in [0:n] do
        if of ≥ mx then break
        let some mo ← far (ht + of)
          | return none
        if !mo then break
        la:=of; of:=2 * of + 1
      lo:=ht + la + 1; hi:=ht + min of mx
    else
      let mx:=ht + 1
      for _ in [0:n] do
        if of ≥ mx then break
        let some fd ← far (ht - of)
          | return none
        if fd then break
        la:=of; of:=2 * of + 1
      lo:=ht + 1 - min of mx; hi:=ht - la
    for _ in [0:n] do
      if lo ≥ hi then break
      let md:=lo + (hi - lo) / 2
      let some mo ← far md | return none
      if mo then lo:=md + 1 else hi:=md
    return some hi):=rfl
section
variable {prog:Program} {w:World} {A:Around} {E:Value->Shared->Prop} {s:Shared}
theorem uV {lf:Bool} {ky:Keyed} {ar:Array Keyed} {bs n ht:Nat} {st:SortSt} {Q:Option Nat->SortSt->Prop} (p:Nat->Bool)
    (hf:∀ i,i < n->∀ (Q:Option Bool->SortSt->Prop),Q (some (p i)) st->wpS (model prog w) A E s (do let z ← elem' ar (bs + i); if lf then lt' z ky else return (← lt' ky z).map (!·)) Q st)
    (hp:∀ i j,i<=j->j < n->p j=true->p i=true) (hh:ht < n)
    (h:∀ k,k<=n->(∀ i,i < k->p i=true)->(∀ i,k<=i->i < n->p i=false)->Q (some k) st):wpS (model prog w) A E s (gal lf ky ar bs n ht) Q st:=by
  rw [zf]
  dsimp only
  refine wpS_bind (hf ht hh _ ?_)
  dsimp only
  cases hr:p ht with
  | true =>
    rw [if_pos rfl]
    refine wpS_bind (wpS_mono (wpS_forRange (I:=fun x c st'=>st=st'/\∃ la of,c=(none,la,of)/\la < of/\x + 1<=of/\ht + la < n/\p (ht + la)=true)
      (Q:=fun c st'=>st=st'/\∃ la of,c=(none,la,of)/\la < of/\ht + la < n/\p (ht + la)=true/\(n - ht<=of\/(ht + of < n/\p (ht + of)=false))) ?step ?fin ⟨rfl,0,1,rfl,by omega,by omega,by omega,by simpa using hr⟩) ?post)
    case fin =>
      rintro c st' ⟨rfl,la,of,rfl,b1,b2,b3,b4⟩
      exact ⟨rfl,la,of,rfl,b1,b3,b4,.inl (by omega)⟩
    case step =>
      rintro x c st' _ hx ⟨rfl,la,of,rfl,b1,b2,b3,b4⟩
      dsimp only
      by_cases hge:of ≥ n - ht
      · rw [if_pos hge]
        exact wpS_pure ⟨rfl,la,of,rfl,b1,b3,b4,.inl hge⟩
      · rw [if_neg hge]
        refine wpS_bind (hf _ (by omega) _ ?_)
        dsimp only
        cases hm:p (ht + of) with
        | true =>
          simp only [Ca,A8,if_false]
          exact wpS_pure ⟨rfl,of,2 * of + 1,rfl,by omega,by omega,by omega,hm⟩
        | false =>
          simp only [FL,if_true]
          exact wpS_pure ⟨rfl,la,of,rfl,b1,b3,b4,.inr ⟨by omega,hm⟩⟩
    case post =>
      rintro c st' ⟨rfl,la,of,rfl,b1,b3,b4,b5⟩
      have h1:(ht + la + 1)<=(ht + min of (n - ht)):=by omega
      have h2:(ht + min of (n - ht))<=n:=by omega
      have h3:∀ i,i < (ht + la + 1)->p i=true:=fun i hi=>hp i (ht + la) (by omega) b3 b4
      have h4:∀ i,(ht + min of (n - ht))<=i->i < n->p i=false:=fun i hi hn=>by
        rcases b5 with b5 | ⟨b5,b6⟩
        · omega
        · cases hpi:p i with
          | false=>rfl
          | true=>rw [hp (ht + of) i (by omega) hn hpi] at b6; cases b6
      dsimp only
      refine wpS_bind (wpS_mono (wpS_forRange (I:=fun x c st'=>st=st'/\∃ lo hi,c=(none,lo,hi)/\lo<=hi/\hi<=n/\hi - lo<=n - x/\(∀ i,i < lo->p i=true)/\(∀ i,hi<=i->i < n->p i=false))
        (Q:=fun c st'=>st=st'/\∃ k,c=(none,k,k)/\k<=n/\(∀ i,i < k->p i=true)/\(∀ i,k<=i->i < n->p i=false)) ?step ?fin ⟨rfl,(ht + la + 1),(ht + min of (n - ht)),rfl,h1,h2,by omega,h3,h4⟩) ?post)
      case fin =>
        rintro c st' ⟨rfl,lo,hi,rfl,a1,a2,a3,a4,a5⟩
        have e:lo=hi:=by omega
        subst e
        exact ⟨rfl,lo,rfl,a2,a4,a5⟩
      case post =>
        rintro c st' ⟨rfl,k,rfl,a2,a4,a5⟩
        exact wpS_pure (h k a2 a4 a5)
      case step =>
        rintro x c st' _ hx ⟨rfl,lo,hi,rfl,a1,a2,a3,a4,a5⟩
        dsimp only
        by_cases hge:lo ≥ hi
        · rw [if_pos hge]
          have e:lo=hi:=by omega
          subst e
          exact wpS_pure ⟨rfl,lo,rfl,a2,a4,a5⟩
        · rw [if_neg hge]
          refine wpS_bind (hf _ (by omega) _ ?_)
          dsimp only
          cases hm:p (lo + (hi - lo) / 2) with
          | true =>
            rw [if_pos rfl]
            exact wpS_pure ⟨rfl,_,_,rfl,by omega,a2,by omega,fun i hi'=>hp i _ (by omega) (by omega) hm,a5⟩
          | false =>
            rw [if_neg (by simp)]
            refine wpS_pure ⟨rfl,_,_,rfl,by omega,by omega,by omega,a4,fun i hi' hn => ?_⟩
            cases hpi:p i with
            | false=>rfl
            | true=>rw [hp _ i hi' hn hpi] at hm; cases hm
  | false =>
    rw [if_neg (by simp)]
    refine wpS_bind (wpS_mono (wpS_forRange (I:=fun x c st'=>st=st'/\∃ la of,c=(none,la,of)/\la < of/\x + 1<=of/\la<=ht/\p (ht - la)=false)
      (Q:=fun c st'=>st=st'/\∃ la of,c=(none,la,of)/\la < of/\la<=ht/\p (ht - la)=false/\(ht + 1<=of\/(of<=ht/\p (ht - of)=true))) ?step ?fin ⟨rfl,0,1,rfl,by omega,by omega,by omega,by simpa using hr⟩) ?post)
    case fin =>
      rintro c st' ⟨rfl,la,of,rfl,b1,b2,b3,b4⟩
      exact ⟨rfl,la,of,rfl,b1,b3,b4,.inl (by omega)⟩
    case step =>
      rintro x c st' _ hx ⟨rfl,la,of,rfl,b1,b2,b3,b4⟩
      dsimp only
      by_cases hge:of ≥ ht + 1
      · rw [if_pos hge]
        exact wpS_pure ⟨rfl,la,of,rfl,b1,b3,b4,.inl hge⟩
      · rw [if_neg hge]
        refine wpS_bind (hf _ (by omega) _ ?_)
        dsimp only
        cases hm:p (ht - of) with
        | true =>
          rw [if_pos rfl]
          exact wpS_pure ⟨rfl,la,of,rfl,b1,b3,b4,.inr ⟨by omega,hm⟩⟩
        | false =>
          rw [if_neg (by simp)]
          exact wpS_pure ⟨rfl,of,2 * of + 1,rfl,by omega,by omega,by omega,hm⟩
    case post =>
      rintro c st' ⟨rfl,la,of,rfl,b1,b3,b4,b5⟩
      have h1:(ht + 1 - min of (ht + 1))<=(ht - la):=by omega
      have h2:(ht - la)<=n:=by omega
      have h3:∀ i,i < (ht + 1 - min of (ht + 1))->p i=true:=fun i hi=>by
        rcases b5 with b5 | ⟨b5,b6⟩
        · omega
        · exact hp i (ht - of) (by omega) (by omega) b6
      have h4:∀ i,(ht - la)<=i->i < n->p i=false:=fun i hi hn=>by
        cases hpi:p i with
        | false=>rfl
        | true=>rw [hp (ht - la) i hi hn hpi] at b4; cases b4
      dsimp only
      refine wpS_bind (wpS_mono (wpS_forRange (I:=fun x c st'=>st=st'/\∃ lo hi,c=(none,lo,hi)/\lo<=hi/\hi<=n/\hi - lo<=n - x/\(∀ i,i < lo->p i=true)/\(∀ i,hi<=i->i < n->p i=false))
        (Q:=fun c st'=>st=st'/\∃ k,c=(none,k,k)/\k<=n/\(∀ i,i < k->p i=true)/\(∀ i,k<=i->i < n->p i=false)) ?step ?fin ⟨rfl,(ht + 1 - min of (ht + 1)),(ht - la),rfl,h1,h2,by omega,h3,h4⟩) ?post)
      case fin =>
        rintro c st' ⟨rfl,lo,hi,rfl,a1,a2,a3,a4,a5⟩
        have e:lo=hi:=by omega
        subst e
        exact ⟨rfl,lo,rfl,a2,a4,a5⟩
      case post =>
        rintro c st' ⟨rfl,k,rfl,a2,a4,a5⟩
        exact wpS_pure (h k a2 a4 a5)
      case step =>
        rintro x c st' _ hx ⟨rfl,lo,hi,rfl,a1,a2,a3,a4,a5⟩
        dsimp only
        by_cases hge:lo ≥ hi
        · rw [if_pos hge]
          have e:lo=hi:=by omega
          subst e
          exact wpS_pure ⟨rfl,lo,rfl,a2,a4,a5⟩
        · rw [if_neg hge]
          refine wpS_bind (hf _ (by omega) _ ?_)
          dsimp only
          cases hm:p (lo + (hi - lo) / 2) with
          | true =>
            rw [if_pos rfl]
            exact wpS_pure ⟨rfl,_,_,rfl,by omega,a2,by omega,fun i hi'=>hp i _ (by omega) (by omega) hm,a5⟩
          | false =>
            rw [if_neg (by simp)]
            refine wpS_pure ⟨rfl,_,_,rfl,by omega,by omega,by omega,a4,fun i hi' hn => ?_⟩
            cases hpi:p i with
            | false=>rfl
            | true=>rw [hp _ i hi' hn hpi] at hm; cases hm
end
open PySem PyProof.Rows
structure Cmp (prog:Program) (w:World) (A:Around) (s:Shared) (O:KeyOrd) (key:Keyed->O.α) (U:Keyed->Prop) (κ : SortKind):Prop where
 lt:∀ (E:Value->Shared->Prop) (st:SortSt) (x y:Keyed) (Q:Option Bool->SortSt->Prop),kindOf st = κ -> U x->U y->Q (some (O.blt (key x) (key y))) st->wpS (model prog w) A E s (lt' x y) Q st
section
variable {prog:Program} {w:World} {A:Around} {E:Value->Shared->Prop} {s:Shared} {O:KeyOrd} {key:Keyed->O.α} {U:Keyed->Prop} {κ : SortKind}
theorem bj {ar:Array Keyed} {i:Nat} {z:Keyed} {st:SortSt} {Q:Keyed->SortSt->Prop} (h:ar[i]? = some z) (hq:Q z st):wpS (model prog w) A E s (elem' ar i) Q st:=by
 rw [elem'_eq,h]
 exact wpS_pure hq
theorem zg (C:Cmp prog w A s O key U κ) {ky:Keyed} {ar:Array Keyed} {bs n ht:Nat} {st:SortSt} {Q:Option Nat->SortSt->Prop} (g:Nat->Keyed) (hk:kindOf st = κ) (uk:U ky)
  (hg:∀ i,i < n->ar[bs + i]? = some (g i)) (hu:∀ i,i < n->U (g i)) (hs:∀ i j,i<=j->j < n->O.kle (key (g i)) (key (g j))) (hh:ht < n)
  (h:∀ k,k<=n->(∀ i,i < k->O.kle (key (g i)) (key ky))->(∀ i,k<=i->i < n->O.klt (key ky) (key (g i)))->Q (some k) st):wpS (model prog w) A E s (gal false ky ar bs n ht) Q st:=by
 refine uV (fun i => !O.blt (key ky) (key (g i))) (fun i hi R hr => ?_) (fun i j hij hj hp => ?_) hh (fun k hk' h1 h2=>h k hk' (fun i hi => ?_) fun i hi hn => ?_)
 ·refine wpS_bind (bj (hg i hi) ?_)
  rw [if_neg (by simp)]
  exact wpS_bind (C.lt _ st ky (g i) _ hk uk (hu i hi) (wpS_pure hr))
 ·have a1:O.blt (key ky) (key (g j))=false:=by simpa using hp
  have a2:O.kle (key (g i)) (key ky):=Bx (hs i j hij hj) a1
  have a3:O.blt (key ky) (key (g i))=false:=a2
  simp [a3]
 ·have a1:=h1 i hi
  exact (by simpa using a1:O.blt (key ky) (key (g i))=false)
 ·have a1:=h2 i hi hn
  exact (by simpa using a1:O.blt (key ky) (key (g i))=true)
theorem zh (C:Cmp prog w A s O key U κ) {ky:Keyed} {ar:Array Keyed} {bs n ht:Nat} {st:SortSt} {Q:Option Nat->SortSt->Prop} (g:Nat->Keyed) (hk:kindOf st = κ) (uk:U ky)
  (hg:∀ i,i < n->ar[bs + i]? = some (g i)) (hu:∀ i,i < n->U (g i)) (hs:∀ i j,i<=j->j < n->O.kle (key (g i)) (key (g j))) (hh:ht < n)
  (h:∀ k,k<=n->(∀ i,i < k->O.klt (key (g i)) (key ky))->(∀ i,k<=i->i < n->O.kle (key ky) (key (g i)))->Q (some k) st):wpS (model prog w) A E s (gal true ky ar bs n ht) Q st:=by
 refine uV (fun i=>O.blt (key (g i)) (key ky)) (fun i hi R hr => ?_) (fun i j hij hj hp => ?_) hh (fun k hk' h1 h2=>h k hk' (fun i hi=>h1 i hi) fun i hi hn=>h2 i hi hn)
 ·refine wpS_bind (bj (hg i hi) ?_)
  rw [if_pos rfl]
  exact C.lt _ st (g i) ky _ hk (hu i hi) uk hr
 ·exact KeyOrd.klt_of_kle_of_klt (hs i j hij hj) hp
end
open PySem PyProof.Rows
section
variable {O:KeyOrd} (key:Keyed->O.α)
def Le (p q:Keyed):Prop:=O.kle (key p) (key q)
structure MW (a b o:Array Keyed) (x y:Nat):Prop where
 hx:x<=a.size
 hy:y<=b.size
 perm:(o.toList ++ (a.toList.drop x ++ b.toList.drop y)).Perm (a.toList ++ b.toList)
 sorted:o.toList.Pairwise (Le key)
 below:∀ p ∈ o.toList,∀ z ∈ a.toList.drop x ++ b.toList.drop y,Le key p z
def d7 (a b r:Array Keyed):Prop:=r.toList.Perm (a.toList ++ b.toList)/\r.toList.Pairwise (Le key)
variable {key}
theorem MW.fin {a b o:Array Keyed} {x y:Nat} (m:MW key a b o x y) {t:List Keyed} {r:Array Keyed} (hr:r.toList=o.toList ++ t) (ht:t.Perm (a.toList.drop x ++ b.toList.drop y)) (hs:t.Pairwise (Le key)):d7 key a b r:=by
 unfold d7
 rw [hr]
 exact ⟨(Cg _ ht).trans m.perm,B6.mpr ⟨m.sorted,hs,fun p hp q hq=>m.below p hp q (ht.mem_iff.mp hq)⟩⟩
theorem MW.take {a b o:Array Keyed} {x y x' y':Nat} (m:MW key a b o x y) {t:List Keyed} {r:Array Keyed} (hr:r.toList=o.toList ++ t) (hx:x'<=a.size) (hy:y'<=b.size)
  (ht:(t ++ (a.toList.drop x' ++ b.toList.drop y')).Perm (a.toList.drop x ++ b.toList.drop y)) (hs:t.Pairwise (Le key)) (hb:∀ p ∈ t,∀ z ∈ a.toList.drop x' ++ b.toList.drop y',Le key p z):MW key a b r x' y':=by
 have sub:∀ z,z ∈ t\/z ∈ a.toList.drop x' ++ b.toList.drop y'->z ∈ a.toList.drop x ++ b.toList.drop y:=fun z hz=>ht.mem_iff.mp (A2.mpr hz)
 refine ⟨hx,hy,?_,?_,?_⟩
 ·rw [hr,Bo]
  exact (Cg _ ht).trans m.perm
 ·rw [hr]
  exact B6.mpr ⟨m.sorted,hs,fun p hp q hq=>m.below p hp q (sub q (.inl hq))⟩
 ·rw [hr]
  intro p hp z hz
  rcases A2.mp hp with h | h
  ·exact m.below p h z (sub z (.inr hz))
  ·exact hb p h z hz
theorem drop_cons {α : Type} {l:List α} {i:Nat} {z : α} (h:l[i]? = some z):l.drop i=z :: l.drop (i + 1):=by
 obtain ⟨hi,e⟩:=AU.mp h
 rw [C1 hi,e]
theorem drop_take {α : Type} (l:List α) (i k:Nat):l.drop i=(l.drop i).take k ++ l.drop (i + k):=by
 rw [<- G1,B0]
theorem aG {a:Array Keyed} {i:Nat} {z:Keyed} (h:a[i]? = some z):a.toList[i]? = some z:=by rw [A3]; exact h
theorem MW.jl {a b o:Array Keyed} {x y:Nat} {z:Keyed} (m:MW key a b o x y) (h:a[x]? = some z) (ha:a.toList.Pairwise (Le key)) (hb:∀ t ∈ b.toList.drop y,Le key z t):MW key a b (o.push z) (x + 1) y:=by
 have e:=drop_cons (aG h)
 have hx:x < a.size:=(Cb.mp h).1
 have pa:(z :: a.toList.drop (x + 1)).Pairwise (Le key):=by rw [<- e]; exact ha.sublist (BZ _ _)
 refine m.take (t:=[z]) (by rw [Cv]) hx m.hy (by rw [e]; exact DH _) (CK _ _) fun p hp t ht => ?_
 have ep:p=z:=by simpa using hp
 subst ep
 rcases A2.mp ht with q | q
 ·exact (D7.mp pa).1 t q
 ·exact hb t q
theorem MW.lY {a b o:Array Keyed} {x y:Nat} {z:Keyed} (m:MW key a b o x y) (h:b[y]? = some z) (hb:b.toList.Pairwise (Le key)) (ha:∀ t ∈ a.toList.drop x,Le key z t):MW key a b (o.push z) x (y + 1):=by
 have e:=drop_cons (aG h)
 have hy:y < b.size:=(Cb.mp h).1
 have pb:(z :: b.toList.drop (y + 1)).Pairwise (Le key):=by rw [<- e]; exact hb.sublist (BZ _ _)
 refine m.take (t:=[z]) (by rw [Cv]) m.hx hy (by rw [e,List.singleton_append]; exact Gy.symm) (CK _ _) fun p hp t ht => ?_
 have ep:p=z:=by simpa using hp
 subst ep
 rcases A2.mp ht with q | q
 ·exact ha t q
 ·exact (D7.mp pb).1 t q
theorem ext_toList (a:Array Keyed) (x k:Nat):(a.extract x (x + k)).toList=(a.toList.drop x).take k:=by
 rw [CI,Ce,Dg]
theorem gp (a:Array Keyed) (x:Nat):(a.extract x a.size).toList=a.toList.drop x:=by
 rw [CI,Ce]
 exact A7 (by rw [BS,AW]; exact AS _)
theorem aJ {l:List Keyed} (h:l.Pairwise (Le key)) {i j:Nat} {p q:Keyed} (hi:l[i]? = some p) (hj:l[j]? = some q) (hij:i<=j):Le key p q:=by
 by_cases e:i=j
 ·subst e
  rw [hi] at hj
  cases hj
  exact Ck _
 ·obtain ⟨h1,e1⟩:=AU.mp hi
  obtain ⟨h2,e2⟩:=AU.mp hj
  have:=C2.mp h i j h1 h2 (by omega)
  rw [e1,e2] at this
  exact this
theorem bh {l:List Keyed} {i:Nat} {t:Keyed} (h:t ∈ l.drop i):∃ j,i<=j/\l[j]? = some t:=by
 obtain ⟨n,e⟩:=Bt.mp h
 rw [Dr] at e
 exact ⟨i + n,by omega,e⟩
theorem jm {l:List Keyed} {i k:Nat} {t:Keyed} (h:t ∈ (l.drop i).take k):∃ j,j < k/\l[i + j]? = some t:=by
 obtain ⟨n,e⟩:=Bt.mp h
 rw [B7] at e
 split at e
 ·rw [Dr] at e
  exact ⟨n,by omega,e⟩
 ·cases e
theorem MW.uW {a b o:Array Keyed} {x y k:Nat} (m:MW key a b o x y) (hk:x + k<=a.size) (ha:a.toList.Pairwise (Le key)) (hb:∀ j p,j < k->a.toList[x + j]? = some p->∀ t ∈ b.toList.drop y,Le key p t):MW key a b (o ++ a.extract x (x + k)) (x + k) y:=by
 refine m.take (t:=(a.toList.drop x).take k) (by rw [Bz,ext_toList]) hk m.hy ?_ ?_ fun p hp t ht => ?_
 ·rw [<- Bo, <- drop_take]
 ·exact ha.sublist ((B3 _ _).trans (BZ _ _))
 ·obtain ⟨j,hj,e⟩:=jm hp
  rcases A2.mp ht with q | q
  ·obtain ⟨i,hi,e2⟩:=bh q
   exact aJ ha e e2 (by omega)
  ·exact hb j p hj e t q
theorem MW.uZ {a b o:Array Keyed} {x y k:Nat} (m:MW key a b o x y) (hk:y + k<=b.size) (hb:b.toList.Pairwise (Le key)) (ha:∀ j p,j < k->b.toList[y + j]? = some p->∀ t ∈ a.toList.drop x,Le key p t):MW key a b (o ++ b.extract y (y + k)) x (y + k):=by
 refine m.take (t:=(b.toList.drop y).take k) (by rw [Bz,ext_toList]) m.hx hk ?_ ?_ fun p hp t ht => ?_
 ·rw [drop_take b.toList y k]
  have e:((b.toList.drop y).take k ++ b.toList.drop (y + k)).take k=(b.toList.drop y).take k:=by rw [<- drop_take]
  rw [e]
  refine (List.perm_append_comm_assoc _ _ _)
 ·exact hb.sublist ((B3 _ _).trans (BZ _ _))
 ·obtain ⟨j,hj,e⟩:=jm hp
  rcases A2.mp ht with q | q
  ·exact ha j p hj e t q
  ·obtain ⟨i,hi,e2⟩:=bh q
   exact aJ hb e e2 (by omega)
theorem MW.tq {a b o:Array Keyed} {x y:Nat} (m:MW key a b o x y) (ha:a.toList.Pairwise (Le key)) (hy:y=b.size):d7 key a b (o ++ a.extract x a.size ++ b.extract y b.size):=by
 subst hy
 have e:b.toList.drop b.size=[]:=Fp (by rw [AW]; exact AS _)
 refine m.fin (t:=a.toList.drop x) (by rw [Bz,Bz,gp,gp,e,BM]) (by rw [e,BM]) (ha.sublist (BZ _ _))
theorem MW.tD {a b o:Array Keyed} {x y:Nat} (m:MW key a b o x y) (hb:b.toList.Pairwise (Le key)) (hx:x=a.size):d7 key a b (o ++ a.extract x a.size ++ b.extract y b.size):=by
 subst hx
 have e:a.toList.drop a.size=[]:=Fp (by rw [AW]; exact AS _)
 refine m.fin (t:=b.toList.drop y) (by rw [Bz,Bz,gp,gp,e,BM]) (by rw [e,D6]) (hb.sublist (BZ _ _))
theorem MW.last {a b o:Array Keyed} {x y:Nat} (m:MW key a b o x y) (ha:a.toList.Pairwise (Le key)) (hb:b.toList.Pairwise (Le key)) (hx:x + 1=a.size) (hl:∀ p q,p ∈ b.toList->a[a.size - 1]? = some q->Le key p q):d7 key a b (o ++ b.extract y b.size ++ a.extract x a.size):=by
 refine m.fin (t:=b.toList.drop y ++ a.toList.drop x) (by rw [Bz,Bz,gp,gp,Bo]) CC ?_
 refine B6.mpr ⟨hb.sublist (BZ _ _),ha.sublist (BZ _ _),fun p hp q hq=>hl p q (DE hp) ?_⟩
 obtain ⟨i,hi,e⟩:=bh hq
 rw [A3] at e
 have hi2:i < a.size:=(Cb.mp e).1
 rw [show a.size - 1=i by omega]
 exact e
theorem MW.size {a b o:Array Keyed} {x y:Nat} (m:MW key a b o x y):o.size + (a.size - x) + (b.size - y)=a.size + b.size:=by
 have e:=m.perm.length_eq
 simp only [AQ,BS,AW] at e
 omega
end
structure Sm (st st':SortSt):Prop where
 k:kindOf st'=kindOf st
 a:arrOf st'=arrOf st
 p:pendingOf st'=pendingOf st
 f:failedOf st'=failedOf st
theorem Sm.refl (st:SortSt):Sm st st:=⟨rfl,rfl,rfl,rfl⟩
theorem Sm.mg {st st':SortSt} (h:Sm st st') (n:Nat):Sm st (SortSt.mk' (kindOf st') (arrOf st') (pendingOf st') n (failedOf st')):=⟨h.k,h.a,h.p,h.f⟩
open PySem PyProof.Rows
section
variable {prog:Program} {w:World} {A:Around} {E:Value->Shared->Prop} {s:Shared} {O:KeyOrd} {key:Keyed->O.α} {U:Keyed->Prop} {κ : SortKind}
theorem bp {a:Array Keyed} {i:Nat} (h:i < a.size):∃ z,a[i]? = some z:=⟨a[i],by simp [h]⟩
theorem bW {a:Array Keyed} {i:Nat} {z:Keyed} (h:a[i]? = some z):z ∈ a.toList:=Bt.mpr ⟨i,by rw [A3]; exact h⟩
theorem ltq {x n:Nat} (h:x<=n) (c:¬ (x == n)=true):x < n:=FW h fun z=>c (beq_iff_eq.mpr z)
abbrev LoC:=Option (Array Keyed) × Array Keyed × Nat × Nat × Nat × Nat × Nat
def w5 (a b o:Array Keyed) (x y mg ac bc:Nat):StateT SortSt Sem (ForInStep LoC):=do
  let z ← elem' a x
  if (x + 1 + 1 == a.size)=true then pure (.done (some (o.push z ++ b.extract y b.size ++ a.extract (x + 1) a.size),o.push z,x + 1,y,mg,ac,bc))
  else if (decide (ac < 7) && decide (bc < 7))=true then pure (.done (none,o.push z,x + 1,y,mg,ac,bc))
  else pure (.yield (none,o.push z,x + 1,y,mg,ac,bc))
def w6 (a b o:Array Keyed) (x y mg ac bc:Nat):StateT SortSt Sem (ForInStep LoC):=do
  let z ← elem' b y
  if (y + 1 == b.size)=true then pure (.done (some (o.push z ++ a.extract x a.size ++ b.extract (y + 1) b.size),o.push z,x,y + 1,mg,ac,bc))
  else do
    let z2 ← elem' a x
    let __x ← gal true z2 b (y + 1) (b.size - (y + 1)) 0
    match __x with
    | some k =>
      if k > 0 then
        if (y + 1 + k == b.size)=true then pure (.done (some (o.push z ++ b.extract (y + 1) (y + 1 + k) ++ a.extract x a.size ++ b.extract (y + 1 + k) b.size),o.push z ++ b.extract (y + 1) (y + 1 + k),x,y + 1 + k,mg,ac,k))
        else w5 a b (o.push z ++ b.extract (y + 1) (y + 1 + k)) x (y + 1 + k) mg ac k
      else w5 a b (o.push z) x (y + 1) mg ac k
    | _=>pure (.done (some (o.push z ++ a.extract x a.size ++ b.extract (y + 1) b.size),o.push z,x,y + 1,mg,ac,bc))
def tE (a b p:Array Keyed) (x y ac bc mg:Nat):StateT SortSt Sem (ForInStep LoC):=do
  modify (fun s=>SortSt.mk' (kindOf s) (arrOf s) (pendingOf s) mg (failedOf s))
  let z ← elem' b y
  let __x ← gal false z a x (a.size - x) 0
  match __x with
  | some k =>
    if k > 0 then
      if (x + k + 1 == a.size)=true then pure (.done (some (p ++ a.extract x (x + k) ++ b.extract y b.size ++ a.extract (x + k) a.size),p ++ a.extract x (x + k),x + k,y,mg,k,bc))
      else if (x + k == a.size)=true then pure (.done (some (p ++ a.extract x (x + k) ++ a.extract (x + k) a.size ++ b.extract y b.size),p ++ a.extract x (x + k),x + k,y,mg,k,bc))
      else w6 a b (p ++ a.extract x (x + k)) (x + k) y mg k bc
    else w6 a b p x y mg k bc
  | _=>pure (.done (some (p ++ a.extract x a.size ++ b.extract y b.size),p,x,y,mg,ac,bc))
def LoQ (key:Keyed->O.α) (a b:Array Keyed) (st:SortSt) (n:Nat) (r:ForInStep LoC) (st':SortSt):Prop:=match r with
 | .done c=>Sm st st'/\((∃ r p x y mg ac bc,c=(some r,p,x,y,mg,ac,bc)/\d7 key a b r)\/∃ p x y mg ac bc,c=(none,p,x,y,mg,ac,bc)/\MW key a b p x y/\x + 1 < a.size/\y < b.size/\n<=p.size)
 | .yield c=>Sm st st'/\∃ p x y mg ac bc,c=(none,p,x,y,mg,ac,bc)/\MW key a b p x y/\x + 1 < a.size/\y < b.size/\n<=p.size
theorem LoQ.out {a b:Array Keyed} {st st':SortSt} {n:Nat} {r:Array Keyed} {c:Array Keyed × Nat × Nat × Nat × Nat × Nat} (sm:Sm st st') (f:d7 key a b r):LoQ key a b st n (.done (some r,c)) st':=by
 obtain ⟨p,x,y,mg,ac,bc⟩:=c
 exact ⟨sm,.inl ⟨_,_,_,_,_,_,_,rfl,f⟩⟩
theorem rM {a b:Array Keyed} {st st':SortSt} (ha:a.toList.Pairwise (Le key)) (hb:b.toList.Pairwise (Le key)) (hl:∀ p q,p ∈ b.toList->a[a.size - 1]? = some q->Le key p q)
  {o:Array Keyed} {x y mg ac bc n:Nat} {za:Keyed} (sm:Sm st st') (ea:a[x]? = some za) (m4:MW key a b (o.push za) (x + 1) y) (hx:x + 1 < a.size) (hy:y < b.size) (hn:n<=o.size):wpS (model prog w) A E s (w5 a b o x y mg ac bc) (LoQ key a b st n) st':=by
 unfold w5
 refine wpS_bind (bj ea ?_)
 by_cases d5:(x + 1 + 1 == a.size)=true
 ·rw [if_pos d5]
  exact wpS_pure (LoQ.out sm (m4.last ha hb (beq_iff_eq.mp d5) hl))
 rw [if_neg d5]
 have hx2:x + 1 + 1 < a.size:=ltq hx d5
 have hn':n<=(o.push za).size:=by rw [C9]; exact Dz hn
 split
 ·exact wpS_pure ⟨sm,.inr ⟨_,_,_,_,_,_,rfl,m4,hx2,hy,hn'⟩⟩
 ·exact wpS_pure ⟨sm,_,_,_,_,_,_,rfl,m4,hx2,hy,hn'⟩
theorem rN (C:Cmp prog w A s O key U κ) {a b:Array Keyed} {st st':SortSt} (hκ : kindOf st = κ) (ua:∀ p ∈ a.toList,U p) (ub:∀ p ∈ b.toList,U p)
  (ha:a.toList.Pairwise (Le key)) (hb:b.toList.Pairwise (Le key)) (hl:∀ p q,p ∈ b.toList->a[a.size - 1]? = some q->Le key p q)
  {o:Array Keyed} {x y mg ac bc n:Nat} {zb:Keyed} (sm:Sm st st') (eb:b[y]? = some zb) (mk:MW key a b o x y) (bl:∀ t ∈ a.toList.drop x,Le key zb t) (hx1:x + 1 < a.size) (hy:y < b.size) (hn:n<=o.size):wpS (model prog w) A E s (w6 a b o x y mg ac bc) (LoQ key a b st n) st':=by
 unfold w6
 refine wpS_bind (bj eb ?_)
 have m2:=mk.lY eb hb bl
 by_cases d3:(y + 1 == b.size)=true
 ·rw [if_pos d3]
  exact wpS_pure (LoQ.out sm (m2.tq ha (beq_iff_eq.mp d3)))
 rw [if_neg d3]
 have hy1:y + 1 < b.size:=ltq hy d3
 have hxa:x < a.size:=Cw hx1
 obtain ⟨za,ea⟩:=bp hxa
 refine wpS_bind (bj ea ?_)
 refine wpS_bind (zh C (fun i=>(b[y + 1 + i]?).getD za) (sm.k.trans hκ) (ua _ (bW ea)) (fun i hi => ?_) (fun i hi => ?_) (fun i j hij hj => ?_) (Gj hy1) fun k1 hk1 g1 g2 => ?_)
 ·obtain ⟨z,e⟩:=bp (show y + 1 + i < b.size by omega)
  rw [e]; rfl
 ·obtain ⟨z,e⟩:=bp (show y + 1 + i < b.size by omega)
  rw [e]; exact ub _ (bW e)
 ·obtain ⟨z,e⟩:=bp (show y + 1 + i < b.size by omega)
  obtain ⟨z',e'⟩:=bp (show y + 1 + j < b.size by omega)
  rw [e,e']; exact aJ hb (aG e) (aG e') (Df hij _)
 dsimp only at g1 g2 ⊢
 have tb:∀ j q,j < k1->b.toList[y + 1 + j]? = some q->∀ t ∈ a.toList.drop x,Le key q t:=fun j q hj e t ht=>by
  have z:=g1 j hj
  rw [A3] at e
  rw [e] at z
  obtain ⟨n,hn,e2⟩:=bh ht
  exact Bx (B5 z) (aJ ha (aG ea) e2 hn)
 have hk1':y + 1 + k1<=b.size:=by omega
 have m3:=m2.uZ (k:=k1) hk1' hb tb
 have bl2:∀ t ∈ b.toList.drop (y + 1 + k1),Le key za t:=fun t ht=>by
  obtain ⟨n,hn,e2⟩:=bh ht
  rw [A3] at e2
  have hn2:n < b.size:=(Cb.mp e2).1
  have z:=g2 (n - (y + 1)) (by omega) (by omega)
  rw [show y + 1 + (n - (y + 1))=n by omega,e2] at z
  exact z
 have hn1:n<=(o.push zb).size:=by rw [C9]; exact Dz hn
 by_cases k2:k1 > 0
 ·rw [if_pos k2]
  by_cases d4:(y + 1 + k1 == b.size)=true
  ·rw [if_pos d4]
   exact wpS_pure (LoQ.out sm (m3.tq ha (beq_iff_eq.mp d4)))
  rw [if_neg d4]
  exact rM ha hb hl sm ea (m3.jl ea ha bl2) hx1 (ltq hk1' d4) (BF hn1 (by rw [DA]; exact CH _ _))
 ·rw [if_neg k2]
  obtain rfl:k1=0:=Dp k2
  exact rM ha hb hl sm ea (m2.jl ea ha bl2) hx1 hy1 hn1
theorem rO (C:Cmp prog w A s O key U κ) {a b:Array Keyed} {st st':SortSt} (hκ : kindOf st = κ) (ua:∀ p ∈ a.toList,U p) (ub:∀ p ∈ b.toList,U p)
  (ha:a.toList.Pairwise (Le key)) (hb:b.toList.Pairwise (Le key)) (hl:∀ p q,p ∈ b.toList->a[a.size - 1]? = some q->Le key p q)
  {p:Array Keyed} {x y ac bc n:Nat} (mg:Nat) (sm:Sm st st') (m:MW key a b p x y) (hx:x + 1 < a.size) (hy:y < b.size) (hn:n<=p.size):wpS (model prog w) A E s (tE a b p x y ac bc mg) (LoQ key a b st n) st':=by
 unfold tE
 obtain ⟨zb,eb⟩:=bp hy
 refine wpS_bind (wpS_modify ?_)
 refine wpS_bind (bj eb ?_)
 refine wpS_bind (zg C (fun i=>(a[x + i]?).getD zb) ((sm.mg _).k.trans hκ) (ub _ (bW eb)) (fun i hi => ?_) (fun i hi => ?_) (fun i j hij hj => ?_) (Gj (Cw hx)) fun k hk h1 h2 => ?_)
 ·obtain ⟨z,e⟩:=bp (show x + i < a.size by omega)
  rw [e]; rfl
 ·obtain ⟨z,e⟩:=bp (show x + i < a.size by omega)
  rw [e]; exact ua _ (bW e)
 ·obtain ⟨z,e⟩:=bp (show x + i < a.size by omega)
  obtain ⟨z',e'⟩:=bp (show x + j < a.size by omega)
  rw [e,e']; exact aJ ha (aG e) (aG e') (Df hij _)
 dsimp only at h1 h2 ⊢
 have ta:∀ j q,j < k->a.toList[x + j]? = some q->∀ t ∈ b.toList.drop y,Le key q t:=fun j q hj e t ht=>by
  have z:=h1 j hj
  rw [A3] at e
  rw [e] at z
  obtain ⟨n,hn,e2⟩:=bh ht
  exact Bx (show O.kle (key q) (key zb) from z) (aJ hb (aG eb) e2 hn)
 have hk':x + k<=a.size:=by omega
 have mk:=m.uW (k:=k) hk' ha ta
 have bl:∀ t ∈ a.toList.drop (x + k),Le key zb t:=fun t ht=>by
  obtain ⟨n,hn,e2⟩:=bh ht
  rw [A3] at e2
  have hn2:n < a.size:=(Cb.mp e2).1
  have z:=h2 (n - x) (by omega) (by omega)
  rw [show x + (n - x)=n by omega,e2] at z
  exact B5 z
 by_cases k0:k > 0
 ·rw [if_pos k0]
  by_cases d1:(x + k + 1 == a.size)=true
  ·rw [if_pos d1]
   exact wpS_pure (LoQ.out (sm.mg _) (mk.last ha hb (beq_iff_eq.mp d1) hl))
  rw [if_neg d1]
  by_cases d2:(x + k == a.size)=true
  ·rw [if_pos d2]
   exact wpS_pure (LoQ.out (sm.mg _) (mk.tD hb (beq_iff_eq.mp d2)))
  rw [if_neg d2]
  exact rN C hκ ua ub ha hb hl (sm.mg _) eb mk bl (ltq (ltq hk' d2) d1) hy (BF hn (by rw [DA]; exact CH _ _))
 ·rw [if_neg k0]
  obtain rfl:k=0:=Dp k0
  exact rN C hκ ua ub ha hb hl (sm.mg _) eb m bl hx hy hn
theorem w9 (C:Cmp prog w A s O key U κ) {a b:Array Keyed} {st st':SortSt} (hκ : kindOf st = κ) (ua:∀ p ∈ a.toList,U p) (ub:∀ p ∈ b.toList,U p)
  (ha:a.toList.Pairwise (Le key)) (hb:b.toList.Pairwise (Le key)) (hl:∀ p q,p ∈ b.toList->a[a.size - 1]? = some q->Le key p q)
  {p:Array Keyed} {x y ac bc n mg:Nat} (sm:Sm st st') (m:MW key a b p x y) (hx:x + 1 < a.size) (hy:y < b.size) (hn:n<=p.size):wpS (model prog w) A E s (if mg > 1 then tE a b p x y ac bc (mg - 1) else tE a b p x y ac bc mg) (LoQ key a b st n) st':=by
 split
 ·exact rO C hκ ua ub ha hb hl (mg - 1) sm m hx hy hn
 ·exact rO C hκ ua ub ha hb hl mg sm m hx hy hn
abbrev LoD:=Option (Array Keyed) × Array Keyed × Nat × Nat × Nat × Nat
abbrev LoE:=Option (Array Keyed) × Array Keyed × Nat × Nat × Nat
def u3 (a b:Array Keyed) (mg:Nat) (c:LoD):StateT SortSt Sem (ForInStep LoD):=do
  let u ← elem' b c.2.2.2.1
  let v ← elem' a c.2.2.1
  let __x ← lt' u v
  match __x with
  | some bw =>
    if bw=true then do
      let z ← elem' b c.2.2.2.1
      if (c.2.2.2.1 + 1 == b.size)=true then pure (.done (some (c.2.1.push z ++ a.extract c.2.2.1 a.size ++ b.extract (c.2.2.2.1 + 1) b.size),c.2.1.push z,c.2.2.1,c.2.2.2.1 + 1,0,c.2.2.2.2.2 + 1))
      else if c.2.2.2.2.2 + 1 ≥ mg then pure (.done (none,c.2.1.push z,c.2.2.1,c.2.2.2.1 + 1,0,c.2.2.2.2.2 + 1))
      else pure (.yield (none,c.2.1.push z,c.2.2.1,c.2.2.2.1 + 1,0,c.2.2.2.2.2 + 1))
    else do
      let z ← elem' a c.2.2.1
      if (c.2.2.1 + 1 + 1 == a.size)=true then pure (.done (some (c.2.1.push z ++ b.extract c.2.2.2.1 b.size ++ a.extract (c.2.2.1 + 1) a.size),c.2.1.push z,c.2.2.1 + 1,c.2.2.2.1,c.2.2.2.2.1 + 1,0))
      else if c.2.2.2.2.1 + 1 ≥ mg then pure (.done (none,c.2.1.push z,c.2.2.1 + 1,c.2.2.2.1,c.2.2.2.2.1 + 1,0))
      else pure (.yield (none,c.2.1.push z,c.2.2.1 + 1,c.2.2.2.1,c.2.2.2.2.1 + 1,0))
  | _=>pure (.done (some (c.2.1 ++ a.extract c.2.2.1 a.size ++ b.extract c.2.2.2.1 b.size),c.2.1,c.2.2.1,c.2.2.2.1,c.2.2.2.2.1,c.2.2.2.2.2))
def zi (a b:Array Keyed) (c:LoC):StateT SortSt Sem (ForInStep LoC) :=
 if c.2.2.2.2.1 > 1 then tE a b c.2.1 c.2.2.1 c.2.2.2.1 c.2.2.2.2.2.1 c.2.2.2.2.2.2 (c.2.2.2.2.1 - 1) else tE a b c.2.1 c.2.2.1 c.2.2.2.1 c.2.2.2.2.2.1 c.2.2.2.2.2.2 c.2.2.2.2.1
def qz (a b:Array Keyed) (c:LoE):StateT SortSt Sem (ForInStep LoE):=do
  let d ← forIn [0:a.size + b.size] ((none,c.2.1,c.2.2.1,c.2.2.2.1,0,0):LoD) fun _ d=>u3 a b c.2.2.2.2 d
  match d.1 with
  | some r=>pure (.done (some r,d.2.1,d.2.2.1,d.2.2.2.1,c.2.2.2.2))
  | none=>do
    rule "list.sort.gallop"
    let e ← forIn [0:a.size + b.size] ((none,d.2.1,d.2.2.1,d.2.2.2.1,c.2.2.2.2 + 1,d.2.2.2.2.1,d.2.2.2.2.2):LoC) fun _ e=>zi a b e
    match e.1 with
    | some r=>pure (.done (some r,e.2.1,e.2.2.1,e.2.2.2.1,e.2.2.2.2.1))
    | none=>do
      modify (fun s=>SortSt.mk' (kindOf s) (arrOf s) (pendingOf s) (e.2.2.2.2.1 + 1) (failedOf s))
      pure (.yield (none,e.2.1,e.2.2.1,e.2.2.2.1,e.2.2.2.2.1 + 1))
theorem xc (a b:Array Keyed):mLo a b=(do
    rule "list.sort.merge-lo"
    let z ← elem' b 0
    if (1 == b.size)=true then pure (#[z] ++ a.extract 0 a.size ++ b.extract 1 b.size)
    else if (0 + 1 == a.size)=true then pure (#[z] ++ b.extract 1 b.size ++ a.extract 0 a.size)
    else do
      let g ← get
      let c ← forIn [0:a.size + b.size] ((none, #[z],0,1,gallopOf g):LoE) fun _ c=>qz a b c
      match c.1 with
      | some r=>pure r
      | none=>unsupported "internal:list.sort.merge-bound"):=by
  kernel_rfl
def LdI (key:Keyed->O.α) (a b:Array Keyed) (st:SortSt) (n:Nat) (c:LoD) (st':SortSt):Prop:=Sm st st'/\∃ o' x y ac bc,c=(none,o',x,y,ac,bc)/\MW key a b o' x y/\x + 1 < a.size/\y < b.size/\n<=o'.size
def LdQ (key:Keyed->O.α) (a b:Array Keyed) (st:SortSt) (n:Nat) (c:LoD) (st':SortSt):Prop:=Sm st st'/\((∃ r o x y ac bc,c=(some r,o,x,y,ac,bc)/\d7 key a b r)\/∃ o' x y ac bc,c=(none,o',x,y,ac,bc)/\MW key a b o' x y/\x + 1 < a.size/\y < b.size/\n<=o'.size)
theorem u5 (C:Cmp prog w A s O key U κ) {a b:Array Keyed} {st st':SortSt} (hκ : kindOf st = κ) (ua:∀ p ∈ a.toList,U p) (ub:∀ p ∈ b.toList,U p)
  (ha:a.toList.Pairwise (Le key)) (hb:b.toList.Pairwise (Le key)) (hl:∀ p q,p ∈ b.toList->a[a.size - 1]? = some q->Le key p q)
  {mg n m':Nat} {c:LoD} (I:LdI key a b st n c st') (hm:m'<=n + 1) {Q:ForInStep LoD->SortSt->Prop} (h:∀ r st',(match r with | .done c'=>LdQ key a b st (n + 1) c' st' | .yield c'=>LdI key a b st m' c' st')->Q r st'):wpS (model prog w) A E s (u3 a b mg c) Q st':=by
 obtain ⟨sm2,o',x,y,ac,bc,rfl,m,hx,hy,hz⟩:=I
 unfold u3
 obtain ⟨za,ea⟩:=bp (Cw hx)
 obtain ⟨zb,eb⟩:=bp hy
 refine wpS_bind (bj eb (wpS_bind (bj ea (wpS_bind (C.lt _ st' zb za _ (sm2.k.trans hκ) (ub _ (bW eb)) (ua _ (bW ea)) ?_)))))
 dsimp only
 have sz:∀ z,n + 1<=(o'.push z).size:=fun z=>by rw [C9]; exact Fi hz
 cases hlt:O.blt (key zb) (key za) with
 | true =>
  rw [if_pos rfl]
  refine wpS_bind (bj eb ?_)
  have m1:=m.lY eb hb fun t ht=>by
   obtain ⟨n,hn,e⟩:=bh ht
   exact Bx (B5 hlt) (aJ ha (aG ea) e hn)
  by_cases c3:(y + 1 == b.size)=true
  ·rw [if_pos c3]
   exact wpS_pure (h _ _ ⟨sm2,.inl ⟨_,_,_,_,_,_,rfl,m1.tq ha (beq_iff_eq.mp c3)⟩⟩)
  ·rw [if_neg c3]
   have c3':=ltq hy c3
   split
   ·exact wpS_pure (h _ _ ⟨sm2,.inr ⟨_,_,_,_,_,rfl,m1,hx,c3',sz _⟩⟩)
   ·exact wpS_pure (h _ _ ⟨sm2,_,_,_,_,_,rfl,m1,hx,c3',BF hm (sz _)⟩)
 | false =>
  rw [if_neg A9]
  refine wpS_bind (bj ea ?_)
  have m1:=m.jl ea ha fun t ht=>by
   obtain ⟨n,hn,e⟩:=bh ht
   exact Bx (show O.kle (key za) (key zb) from hlt) (aJ hb (aG eb) e hn)
  by_cases c3:(x + 1 + 1 == a.size)=true
  ·rw [if_pos c3]
   exact wpS_pure (h _ _ ⟨sm2,.inl ⟨_,_,_,_,_,_,rfl,m1.last ha hb (beq_iff_eq.mp c3) hl⟩⟩)
  ·rw [if_neg c3]
   have c3':=ltq hx c3
   split
   ·exact wpS_pure (h _ _ ⟨sm2,.inr ⟨_,_,_,_,_,rfl,m1,c3',hy,sz _⟩⟩)
   ·exact wpS_pure (h _ _ ⟨sm2,_,_,_,_,_,rfl,m1,c3',hy,BF hm (sz _)⟩)
def LeI (key:Keyed->O.α) (a b:Array Keyed) (st:SortSt) (n:Nat) (c:LoE) (st':SortSt):Prop:=Sm st st'/\∃ o x y mg,c=(none,o,x,y,mg)/\MW key a b o x y/\x + 1 < a.size/\y < b.size/\n + 1<=o.size
def LeQ (key:Keyed->O.α) (a b:Array Keyed) (st:SortSt) (c:LoE) (st':SortSt):Prop:=Sm st st'/\((∃ r o x y mg,c=(some r,o,x,y,mg)/\d7 key a b r)\/∃ o x y mg,c=(none,o,x,y,mg)/\MW key a b o x y/\x + 1 < a.size/\y < b.size/\a.size + b.size + 1<=o.size)
theorem tF (C:Cmp prog w A s O key U κ) {a b:Array Keyed} {st st':SortSt} (hκ : kindOf st = κ) (ua:∀ p ∈ a.toList,U p) (ub:∀ p ∈ b.toList,U p)
  (ha:a.toList.Pairwise (Le key)) (hb:b.toList.Pairwise (Le key)) (na:0 < a.size) (hl:∀ p q,p ∈ b.toList->a[a.size - 1]? = some q->Le key p q)
  {n:Nat} {c:LoE} (I:LeI key a b st n c st'):wpS (model prog w) A E s (qz a b c) (fun r st'=>match r with | .done c'=>LeQ key a b st c' st' | .yield c'=>LeI key a b st (n + 1) c' st') st':=by
 obtain ⟨sm1,o,x,y,mg,rfl,m,hx,hy,hz⟩:=I
 unfold qz
 have q1:1<=a.size + b.size:=BF na (CH _ _)
 refine wpS_bind (wpS_mono (wpS_forRange (I:=fun j c st'=>LdI key a b st (o.size + min j 1) c st') (Q:=LdQ key a b st (o.size + 1)) (fun j c st2 _ hj J=>u5 (n:=o.size + min j 1) (m':=o.size + min (j + 1) 1) C hκ ua ub ha hb hl J (by omega) fun r st' k => ?_) (fun c st' J => ?_) ⟨sm1,o,x,y,0,0,rfl,m,hx,hy,AS _⟩) ?_)
 ·cases r with
  | done c'=>exact k.imp id fun z=>z.imp id fun ⟨o',x,y,ac,bc,e,m,hx,hy,hz⟩=>⟨o',x,y,ac,bc,e,m,hx,hy,by omega⟩
  | yield c'=>exact k
 ·obtain ⟨sm,o',x,y,ac,bc,e,m,hx,hy,hz⟩:=J
  exact ⟨sm,.inr ⟨o',x,y,ac,bc,e,m,hx,hy,by omega⟩⟩
 rintro c st2 ⟨sm2,⟨r,o',x,y,ac,bc,rfl,fr⟩ | ⟨o',x,y,ac,bc,rfl,m,hx,hy,hz2⟩⟩
 ·exact wpS_pure ⟨sm2,.inl ⟨_,_,_,_,_,rfl,fr⟩⟩
 dsimp only
 refine wpS_bind (wpS_lift (wpAny_rule ⟨rfl,?_⟩))
 refine wpS_bind (wpS_mono (wpS_forRange (I:=fun _ c st'=>LoQ key a b st o'.size (.yield c) st') (Q:=fun c st'=>LoQ key a b st o'.size (.done c) st') (fun j c st3 _ hj J => ?_) (fun c st' J=>⟨J.1,.inr J.2⟩) ⟨sm2,o',x,y,_,ac,bc,rfl,m,hx,hy,AS _⟩) ?_)
 ·obtain ⟨sm3,p,x,y,mg,ac,bc,rfl,m,hx,hy,hz3⟩:=J
  refine wpS_mono (w9 C hκ ua ub ha hb hl sm3 m hx hy hz3) ?_
  intro r st' h
  cases r <;> exact h
 rintro c st3 ⟨sm3,⟨r,p,x,y,mg,ac,bc,rfl,fr⟩ | ⟨p,x,y,mg,ac,bc,rfl,m,hx,hy,hz3⟩⟩
 ·exact wpS_pure ⟨sm3,.inl ⟨_,_,_,_,_,rfl,fr⟩⟩
 ·dsimp only
  exact wpS_bind (wpS_modify (wpS_pure ⟨sm3.mg _,p,x,y,_,rfl,m,hx,hy,by omega⟩))
theorem zj (C:Cmp prog w A s O key U κ) {a b:Array Keyed} {st:SortSt} {Q:Array Keyed->SortSt->Prop} (hκ : kindOf st = κ) (ua:∀ p ∈ a.toList,U p) (ub:∀ p ∈ b.toList,U p)
  (ha:a.toList.Pairwise (Le key)) (hb:b.toList.Pairwise (Le key)) (na:0 < a.size) (nb:0 < b.size) (h0:∀ p q,b[0]? = some p->a[0]? = some q->Le key p q) (hl:∀ p q,p ∈ b.toList->a[a.size - 1]? = some q->Le key p q)
  (h:∀ r st',Sm st st'->d7 key a b r->Q r st'):wpS (model prog w) A E s (mLo a b) Q st:=by
 rw [xc]
 refine wpS_bind (wpS_lift (wpAny_rule ⟨rfl,?_⟩))
 obtain ⟨b0,eb0⟩:=bp nb
 obtain ⟨a0,ea0⟩:=bp na
 have a0le:∀ t ∈ a.toList,Le key a0 t:=fun t ht=>by
  obtain ⟨i,e⟩:=Bt.mp ht
  exact aJ ha (aG ea0) e (Br _)
 have m0:MW key a b #[] 0 0:=⟨Br _,Br _,DH _,List.Pairwise.nil,fun p hp=>by cases hp⟩
 have m1:MW key a b #[b0] 0 1:=m0.lY eb0 hb fun t ht=>Bx (h0 _ _ eb0 ea0) (a0le t ht)
 refine wpS_bind (bj eb0 ?_)
 by_cases c1:(1 == b.size)=true
 ·rw [if_pos c1]
  exact wpS_pure (h _ st (Sm.refl st) (m1.tq ha (beq_iff_eq.mp c1)))
 rw [if_neg c1]
 by_cases c2:(0 + 1 == a.size)=true
 ·rw [if_pos c2]
  exact wpS_pure (h _ st (Sm.refl st) (m1.last ha hb (beq_iff_eq.mp c2) hl))
 rw [if_neg c2]
 refine wpS_bind (wpS_get ?_)
 refine wpS_bind (wpS_mono (wpS_forRange (I:=fun i c st'=>LeI key a b st i c st') (Q:=LeQ key a b st) (fun i c st1 _ _ J=>wpS_mono (tF C hκ ua ub ha hb na hl J) fun r st' h=>by cases r <;> exact h) (fun c st' J => ?_) ⟨Sm.refl st,_,_,_,_,rfl,m1,ltq na c2,ltq nb c1,AS _⟩) ?_)
 ·obtain ⟨sm,o,x,y,mg,e,m,hx,hy,hz⟩:=J
  exact ⟨sm,.inr ⟨o,x,y,mg,e,m,hx,hy,by omega⟩⟩
 rintro c st' ⟨sm,⟨r,o,x,y,mg,rfl,fr⟩ | ⟨o,x,y,mg,rfl,m,hx,hy,hz⟩⟩
 ·exact wpS_pure (h r st' sm fr)
 ·have:=m.size
  omega
end
open PySem PyProof.Rows
section
variable {O:KeyOrd} (key:Keyed->O.α)
structure MV (a b o:Array Keyed) (x y:Nat):Prop where
 hx:x<=a.size
 hy:y<=b.size
 perm:((a.toList.take x ++ b.toList.take y) ++ o.toList.reverse).Perm (a.toList ++ b.toList)
 sorted:o.toList.reverse.Pairwise (Le key)
 above:∀ p ∈ a.toList.take x ++ b.toList.take y,∀ q ∈ o.toList.reverse,Le key p q
variable {key}
theorem MV.fin {a b o:Array Keyed} {x y:Nat} (m:MV key a b o x y) {t:List Keyed} {r:Array Keyed} (hr:r.toList=t ++ o.toList.reverse) (ht:t.Perm (a.toList.take x ++ b.toList.take y)) (hs:t.Pairwise (Le key)):d7 key a b r:=by
 unfold d7
 rw [hr]
 exact ⟨(CP _ ht).trans m.perm,B6.mpr ⟨hs,m.sorted,fun p hp q hq=>m.above p (ht.mem_iff.mp hp) q hq⟩⟩
theorem MV.take {a b o:Array Keyed} {x y x' y':Nat} (m:MV key a b o x y) {t:List Keyed} {r:Array Keyed} (hr:r.toList.reverse=t ++ o.toList.reverse) (hx:x'<=a.size) (hy:y'<=b.size)
  (ht:((a.toList.take x' ++ b.toList.take y') ++ t).Perm (a.toList.take x ++ b.toList.take y)) (hs:t.Pairwise (Le key)) (hb:∀ p ∈ a.toList.take x' ++ b.toList.take y',∀ q ∈ t,Le key p q):MV key a b r x' y':=by
 have sub:∀ z,z ∈ a.toList.take x' ++ b.toList.take y'\/z ∈ t->z ∈ a.toList.take x ++ b.toList.take y:=fun z hz=>ht.mem_iff.mp (A2.mpr hz)
 refine ⟨hx,hy,?_,?_,?_⟩
 ·rw [hr, <- Bo]
  exact (CP _ ht).trans m.perm
 ·rw [hr]
  exact B6.mpr ⟨hs,m.sorted,fun p hp q hq=>m.above p (sub p (.inr hp)) q hq⟩
 ·rw [hr]
  intro p hp z hz
  rcases A2.mp hz with h | h
  ·exact hb p hp z h
  ·exact m.above p (sub p (.inl hp)) z h
theorem bq {l:List Keyed} {k:Nat} {t:Keyed} (h:t ∈ l.take k):∃ j,j < k/\l[j]? = some t:=by
 obtain ⟨n,e⟩:=Bt.mp h
 rw [B7] at e
 split at e
 ·exact ⟨n,by omega,e⟩
 ·cases e
theorem ma {l:List Keyed} {x:Nat} {z:Keyed} (hx:1<=x) (h:l[x - 1]? = some z):l.take x=l.take (x - 1) ++ [z]:=by
 obtain ⟨n,rfl⟩:∃ n,x=n + 1:=⟨x - 1,by omega⟩
 rw [Nat.add_sub_cancel] at h ⊢
 rw [BU,h]
 rfl
theorem rP (a:Array Keyed) (c x:Nat) (hx:x<=a.size):(a.extract c x).toList=(a.toList.take x).drop c:=by
 rw [CI,Ce,List.drop_take]
theorem gq (a:Array Keyed) (x:Nat):(a.extract 0 x).toList=a.toList.take x:=by
 rw [CI,Ce,Eg,Fw]
theorem MV.jl {a b o:Array Keyed} {x y:Nat} {z:Keyed} (m:MV key a b o x y) (h1:1<=x) (h:a[x - 1]? = some z) (ha:a.toList.Pairwise (Le key)) (hb:∀ t ∈ b.toList.take y,Le key t z):MV key a b (o.push z) (x - 1) y:=by
 have e:=ma h1 (aG h)
 refine m.take (t:=[z]) (by rw [Cv,DL]; rfl) (by have:=m.hx; omega) m.hy ?_ (CK _ _) fun p hp q hq => ?_
 ·rw [e,Bo,Bo]
  exact Cg _ CC
 ·have eq:q=z:=by simpa using hq
  subst eq
  rcases A2.mp hp with r | r
  ·obtain ⟨j,hj,e2⟩:=bq r
   exact aJ ha e2 (aG h) (by omega)
  ·exact hb p r
theorem MV.lY {a b o:Array Keyed} {x y:Nat} {z:Keyed} (m:MV key a b o x y) (h1:1<=y) (h:b[y - 1]? = some z) (hb:b.toList.Pairwise (Le key)) (ha:∀ t ∈ a.toList.take x,Le key t z):MV key a b (o.push z) x (y - 1):=by
 have e:=ma h1 (aG h)
 refine m.take (t:=[z]) (by rw [Cv,DL]; rfl) m.hx (by have:=m.hy; omega) ?_ (CK _ _) fun p hp q hq => ?_
 ·rw [e,Bo]
 ·have eq:q=z:=by simpa using hq
  subst eq
  rcases A2.mp hp with r | r
  ·exact ha p r
  ·obtain ⟨j,hj,e2⟩:=bq r
   exact aJ hb e2 (aG h) (by omega)
theorem rQ (l:List Keyed) {c x:Nat} (h:c<=x):l.take x=l.take c ++ (l.take x).drop c:=by
 have e:(l.take x).take c=l.take c:=by rw [List.take_take,Nat.min_eq_left h]
 rw [<- e,B0]
theorem j6 {l:List Keyed} {c x:Nat} {t:Keyed} (h:t ∈ (l.take x).drop c):∃ j,c<=j/\j < x/\l[j]? = some t:=by
 obtain ⟨j,hj,e⟩:=bh h
 rw [B7] at e
 split at e
 ·exact ⟨j,hj,by omega,e⟩
 ·cases e
theorem MV.uW {a b o:Array Keyed} {x y c:Nat} (m:MV key a b o x y) (hc:c<=x) (ha:a.toList.Pairwise (Le key)) (hb:∀ j p,c<=j->j < x->a.toList[j]? = some p->∀ t ∈ b.toList.take y,Le key t p):MV key a b (o ++ (a.extract c x).reverse) c y:=by
 refine m.take (t:=(a.toList.take x).drop c) (by rw [Bz,DL,C3,DF,rP _ _ _ m.hx]) (BF hc m.hx) m.hy ?_ ?_ fun p hp q hq => ?_
 ·refine List.Perm.trans ?_ (CP _ (List.Perm.of_eq (rQ a.toList hc).symm))
  rw [Bo,Bo]
  exact Cg _ CC
 ·exact ha.sublist ((BZ _ _).trans (B3 _ _))
 ·obtain ⟨j,h1,h2,e⟩:=j6 hq
  rcases A2.mp hp with r | r
  ·obtain ⟨i,hi,e2⟩:=bq r
   exact aJ ha e2 e (by omega)
  ·exact hb j q h1 h2 e p r
theorem MV.uZ {a b o:Array Keyed} {x y c:Nat} (m:MV key a b o x y) (hc:c<=y) (hb:b.toList.Pairwise (Le key)) (ha:∀ j p,c<=j->j < y->b.toList[j]? = some p->∀ t ∈ a.toList.take x,Le key t p):MV key a b (o ++ (b.extract c y).reverse) x c:=by
 refine m.take (t:=(b.toList.take y).drop c) (by rw [Bz,DL,C3,DF,rP _ _ _ m.hy]) m.hx (BF hc m.hy) ?_ ?_ fun p hp q hq => ?_
 ·rw [Bo, <- rQ b.toList hc]
 ·exact hb.sublist ((BZ _ _).trans (B3 _ _))
 ·obtain ⟨j,h1,h2,e⟩:=j6 hq
  rcases A2.mp hp with r | r
  ·exact ha j q h1 h2 e p r
  ·obtain ⟨i,hi,e2⟩:=bq r
   exact aJ hb e2 e (by omega)
theorem MV.tD {a b o:Array Keyed} {x y:Nat} (m:MV key a b o x y) (hb:b.toList.Pairwise (Le key)) (hx:x=0):d7 key a b (a.extract 0 x ++ b.extract 0 y ++ o.reverse):=by
 subst hx
 refine m.fin (t:=b.toList.take y) (by rw [Bz,Bz,gq,gq,C3,Eh,D6]) (by rw [Eh,D6]) (hb.sublist (B3 _ _))
theorem MV.tq {a b o:Array Keyed} {x y:Nat} (m:MV key a b o x y) (ha:a.toList.Pairwise (Le key)) (hy:y=0):d7 key a b (a.extract 0 x ++ b.extract 0 y ++ o.reverse):=by
 subst hy
 refine m.fin (t:=a.toList.take x) (by rw [Bz,Bz,gq,gq,C3,Eh,BM]) (by rw [Eh,BM]) (ha.sublist (B3 _ _))
theorem MV.first {a b o:Array Keyed} {x y:Nat} (m:MV key a b o x y) (ha:a.toList.Pairwise (Le key)) (hb:b.toList.Pairwise (Le key)) (hy:y=1) (hl:∀ p q,b[0]? = some p->q ∈ a.toList->Le key p q):d7 key a b (b.extract 0 y ++ a.extract 0 x ++ o.reverse):=by
 refine m.fin (t:=b.toList.take y ++ a.toList.take x) (by rw [Bz,Bz,gq,gq,C3]) CC ?_
 refine B6.mpr ⟨hb.sublist (B3 _ _),ha.sublist (B3 _ _),fun p hp q hq=>hl p q ?_ (C6 hq)⟩
 obtain ⟨i,hi,e⟩:=bq hp
 rw [A3] at e
 rw [show i=0 by omega] at e
 exact e
theorem MV.size {a b o:Array Keyed} {x y:Nat} (m:MV key a b o x y):o.size + x + y=a.size + b.size:=by
 have e:=m.perm.length_eq
 have h1:=m.hx
 have h2:=m.hy
 simp only [AQ,BL,AW,Cf] at e
 omega
end
open PySem PyProof.Rows
section
variable {prog:Program} {w:World} {A:Around} {E:Value->Shared->Prop} {s:Shared} {O:KeyOrd} {key:Keyed->O.α} {U:Keyed->Prop} {κ : SortKind}
abbrev HiC:=Option (Array Keyed) × Nat × Nat × Array Keyed × Nat × Nat × Nat
def xf (a b:Array Keyed) (x y:Nat) (o:Array Keyed) (mg ac bc:Nat):StateT SortSt Sem (ForInStep HiC):=do
  let z ← elem' a (x - 1)
  if (x - 1 == 0)=true then pure (.done (some (a.extract 0 (x - 1) ++ b.extract 0 y ++ (o.push z).reverse),x - 1,y,o.push z,mg,ac,bc))
  else if (decide (ac < 7) && decide (bc < 7))=true then pure (.done (none,x - 1,y,o.push z,mg,ac,bc))
  else pure (.yield (none,x - 1,y,o.push z,mg,ac,bc))
def xg (a b:Array Keyed) (x y:Nat) (o:Array Keyed) (mg ac bc:Nat):StateT SortSt Sem (ForInStep HiC):=do
  let z ← elem' b (y - 1)
  if (y - 1 == 1)=true then pure (.done (some (b.extract 0 (y - 1) ++ a.extract 0 x ++ (o.push z).reverse),x,y - 1,o.push z,mg,ac,bc))
  else do
    let z2 ← elem' a (x - 1)
    let __x ← gal true z2 b 0 (y - 1) (y - 1 - 1)
    match __x with
    | some c =>
      if y - 1 - c > 0 then
        if (c == 1)=true then pure (.done (some (b.extract 0 c ++ a.extract 0 x ++ (o.push z ++ (b.extract c (y - 1)).reverse).reverse),x,c,o.push z ++ (b.extract c (y - 1)).reverse,mg,ac,y - 1 - c))
        else if (c == 0)=true then pure (.done (some (a.extract 0 x ++ b.extract 0 c ++ (o.push z ++ (b.extract c (y - 1)).reverse).reverse),x,c,o.push z ++ (b.extract c (y - 1)).reverse,mg,ac,y - 1 - c))
        else xf a b x c (o.push z ++ (b.extract c (y - 1)).reverse) mg ac (y - 1 - c)
      else xf a b x (y - 1) (o.push z) mg ac (y - 1 - c)
    | _=>pure (.done (some (a.extract 0 x ++ b.extract 0 (y - 1) ++ (o.push z).reverse),x,y - 1,o.push z,mg,ac,bc))
def tG (a b:Array Keyed) (x y:Nat) (p:Array Keyed) (ac bc mg:Nat):StateT SortSt Sem (ForInStep HiC):=do
  modify (fun s=>SortSt.mk' (kindOf s) (arrOf s) (pendingOf s) mg (failedOf s))
  let z ← elem' b (y - 1)
  let __x ← gal false z a 0 x (x - 1)
  match __x with
  | some c =>
    if x - c > 0 then
      if (c == 0)=true then pure (.done (some (a.extract 0 c ++ b.extract 0 y ++ (p ++ (a.extract c x).reverse).reverse),c,y,p ++ (a.extract c x).reverse,mg,x - c,bc))
      else xg a b c y (p ++ (a.extract c x).reverse) mg (x - c) bc
    else xg a b x y p mg (x - c) bc
  | _=>pure (.done (some (a.extract 0 x ++ b.extract 0 y ++ p.reverse),x,y,p,mg,ac,bc))
def HiQ (key:Keyed->O.α) (a b:Array Keyed) (st:SortSt) (n:Nat) (r:ForInStep HiC) (st':SortSt):Prop:=match r with
 | .done c=>Sm st st'/\((∃ r x y p mg ac bc,c=(some r,x,y,p,mg,ac,bc)/\d7 key a b r)\/∃ x y p mg ac bc,c=(none,x,y,p,mg,ac,bc)/\MV key a b p x y/\1<=x/\2<=y/\n<=p.size)
 | .yield c=>Sm st st'/\∃ x y p mg ac bc,c=(none,x,y,p,mg,ac,bc)/\MV key a b p x y/\1<=x/\2<=y/\n<=p.size
theorem HiQ.out {a b:Array Keyed} {st st':SortSt} {n:Nat} {r:Array Keyed} {c:Nat × Nat × Array Keyed × Nat × Nat × Nat} (sm:Sm st st') (f:d7 key a b r):HiQ key a b st n (.done (some r,c)) st':=by
 obtain ⟨p,x,y,mg,ac,bc⟩:=c
 exact ⟨sm,.inl ⟨_,_,_,_,_,_,_,rfl,f⟩⟩
theorem u6 {x:Nat} (c:¬ (x == 0)=true):1<=x:=Nat.pos_of_ne_zero fun z=>c (beq_iff_eq.mpr z)
theorem xh {y:Nat} (h:1<=y) (c:¬ (y == 1)=true):2<=y:=FW h fun z=>c (beq_iff_eq.mpr z.symm)
theorem rR {a b:Array Keyed} {st st':SortSt} (hb:b.toList.Pairwise (Le key))
  {o:Array Keyed} {x y mg ac bc n:Nat} {za:Keyed} (sm:Sm st st') (ea:a[x - 1]? = some za) (m4:MV key a b (o.push za) (x - 1) y) (hy:2<=y) (hn:n<=o.size):wpS (model prog w) A E s (xf a b x y o mg ac bc) (HiQ key a b st n) st':=by
 unfold xf
 refine wpS_bind (bj ea ?_)
 by_cases d5:(x - 1 == 0)=true
 ·rw [if_pos d5]
  exact wpS_pure (HiQ.out sm (m4.tD hb (beq_iff_eq.mp d5)))
 rw [if_neg d5]
 have hx2:=u6 d5
 have hn':n<=(o.push za).size:=by rw [C9]; exact Dz hn
 split
 ·exact wpS_pure ⟨sm,.inr ⟨_,_,_,_,_,_,rfl,m4,hx2,hy,hn'⟩⟩
 ·exact wpS_pure ⟨sm,_,_,_,_,_,_,rfl,m4,hx2,hy,hn'⟩
theorem rS (C:Cmp prog w A s O key U κ) {a b:Array Keyed} {st st':SortSt} (hκ : kindOf st = κ) (ua:∀ p ∈ a.toList,U p) (ub:∀ p ∈ b.toList,U p)
  (ha:a.toList.Pairwise (Le key)) (hb:b.toList.Pairwise (Le key)) (h0:∀ p q,b[0]? = some p->q ∈ a.toList->Le key p q)
  {o:Array Keyed} {x y mg ac bc n:Nat} {zb:Keyed} (sm:Sm st st') (eb:b[y - 1]? = some zb) (mk:MV key a b o x y) (bl:∀ t ∈ a.toList.take x,Le key t zb) (hx1:1<=x) (hy:2<=y) (hn:n<=o.size):wpS (model prog w) A E s (xg a b x y o mg ac bc) (HiQ key a b st n) st':=by
 unfold xg
 refine wpS_bind (bj eb ?_)
 have m2:=mk.lY (Gk hy) eb hb bl
 have y1:1<=y - 1:=CJ hy
 have bx1:=mk.hx
 have by1:=mk.hy
 by_cases d3:(y - 1 == 1)=true
 ·rw [if_pos d3]
  exact wpS_pure (HiQ.out sm (m2.first ha hb (beq_iff_eq.mp d3) h0))
 rw [if_neg d3]
 have hy1:=xh y1 d3
 obtain ⟨za,ea⟩:=bp (show x - 1 < a.size by omega)
 refine wpS_bind (bj ea ?_)
 refine wpS_bind (zh C (fun i=>(b[i]?).getD za) (sm.k.trans hκ) (ua _ (bW ea)) (fun i hi => ?_) (fun i hi => ?_) (fun i j hij hj => ?_) (Ey y1) fun c2 hc2 g1 g2 => ?_)
 ·obtain ⟨z,e⟩:=bp (show i < b.size by omega)
  rw [De,e]; rfl
 ·obtain ⟨z,e⟩:=bp (show i < b.size by omega)
  rw [e]; exact ub _ (bW e)
 ·obtain ⟨z,e⟩:=bp (show i < b.size by omega)
  obtain ⟨z',e'⟩:=bp (show j < b.size by omega)
  rw [e,e']; exact aJ hb (aG e) (aG e') hij
 dsimp only at g1 g2 ⊢
 have tb:∀ j q,c2<=j->j < y - 1->b.toList[j]? = some q->∀ t ∈ a.toList.take x,Le key t q:=fun j q hj hj2 e t ht=>by
  have z:=g2 j hj hj2
  rw [A3] at e
  rw [e] at z
  obtain ⟨n,hn,e2⟩:=bq ht
  exact Bx (aJ ha e2 (aG ea) (CJ hn)) z
 have m3:=m2.uZ hc2 hb tb
 have bl2:∀ t ∈ b.toList.take c2,Le key t za:=fun t ht=>by
  obtain ⟨n,hn,e2⟩:=bq ht
  rw [A3] at e2
  have z:=g1 n hn
  rw [e2] at z
  exact B5 z
 have hn1:n<=(o.push zb).size:=by rw [C9]; exact Dz hn
 by_cases k2:y - 1 - c2 > 0
 ·rw [if_pos k2]
  by_cases d4:(c2 == 1)=true
  ·rw [if_pos d4]
   exact wpS_pure (HiQ.out sm (m3.first ha hb (beq_iff_eq.mp d4) h0))
  rw [if_neg d4]
  by_cases d6:(c2 == 0)=true
  ·rw [if_pos d6]
   exact wpS_pure (HiQ.out sm (m3.tq ha (beq_iff_eq.mp d6)))
  rw [if_neg d6]
  exact rR hb sm ea (m3.jl hx1 ea ha bl2) (xh (u6 d6) d4) (BF hn1 (by rw [DA]; exact CH _ _))
 ·rw [if_neg k2]
  have ec2:c2=y - 1:=Dv hc2 (Fx (Dp k2))
  rw [ec2] at bl2
  exact rR hb sm ea (m2.jl hx1 ea ha bl2) hy1 hn1
theorem rT (C:Cmp prog w A s O key U κ) {a b:Array Keyed} {st st':SortSt} (hκ : kindOf st = κ) (ua:∀ p ∈ a.toList,U p) (ub:∀ p ∈ b.toList,U p)
  (ha:a.toList.Pairwise (Le key)) (hb:b.toList.Pairwise (Le key)) (h0:∀ p q,b[0]? = some p->q ∈ a.toList->Le key p q)
  {p:Array Keyed} {x y ac bc n:Nat} (mg:Nat) (sm:Sm st st') (m:MV key a b p x y) (hx:1<=x) (hy:2<=y) (hn:n<=p.size):wpS (model prog w) A E s (tG a b x y p ac bc mg) (HiQ key a b st n) st':=by
 unfold tG
 have bx:=m.hx
 have by':=m.hy
 obtain ⟨zb,eb⟩:=bp (show y - 1 < b.size by omega)
 refine wpS_bind (wpS_modify ?_)
 refine wpS_bind (bj eb ?_)
 refine wpS_bind (zg C (fun i=>(a[i]?).getD zb) ((sm.mg _).k.trans hκ) (ub _ (bW eb)) (fun i hi => ?_) (fun i hi => ?_) (fun i j hij hj => ?_) (Ey hx) fun c hc h1 h2 => ?_)
 ·obtain ⟨z,e⟩:=bp (Ba hi bx)
  rw [De,e]; rfl
 ·obtain ⟨z,e⟩:=bp (Ba hi bx)
  rw [e]; exact ua _ (bW e)
 ·obtain ⟨z,e⟩:=bp (show i < a.size by omega)
  obtain ⟨z',e'⟩:=bp (show j < a.size by omega)
  rw [e,e']; exact aJ ha (aG e) (aG e') hij
 dsimp only at h1 h2 ⊢
 have ta:∀ j q,c<=j->j < x->a.toList[j]? = some q->∀ t ∈ b.toList.take y,Le key t q:=fun j q hj hj2 e t ht=>by
  have z:=h2 j hj hj2
  rw [A3] at e
  rw [e] at z
  obtain ⟨n,hn,e2⟩:=bq ht
  exact Bx (aJ hb e2 (aG eb) (CJ hn)) (B5 z)
 have mk:=m.uW hc ha ta
 have bl:∀ t ∈ a.toList.take c,Le key t zb:=fun t ht=>by
  obtain ⟨n,hn,e2⟩:=bq ht
  rw [A3] at e2
  have z:=h1 n hn
  rw [e2] at z
  exact z
 by_cases k0:x - c > 0
 ·rw [if_pos k0]
  by_cases d1:(c == 0)=true
  ·rw [if_pos d1]
   exact wpS_pure (HiQ.out (sm.mg _) (mk.tD hb (beq_iff_eq.mp d1)))
  rw [if_neg d1]
  exact rS C hκ ua ub ha hb h0 (sm.mg _) eb mk bl (u6 d1) hy (BF hn (by rw [DA]; exact CH _ _))
 ·rw [if_neg k0]
  have ec:c=x:=Dv hc (Fx (Dp k0))
  rw [ec] at bl
  exact rS C hκ ua ub ha hb h0 (sm.mg _) eb m bl hx hy hn
theorem xk (C:Cmp prog w A s O key U κ) {a b:Array Keyed} {st st':SortSt} (hκ : kindOf st = κ) (ua:∀ p ∈ a.toList,U p) (ub:∀ p ∈ b.toList,U p)
  (ha:a.toList.Pairwise (Le key)) (hb:b.toList.Pairwise (Le key)) (h0:∀ p q,b[0]? = some p->q ∈ a.toList->Le key p q)
  {p:Array Keyed} {x y ac bc n mg:Nat} (sm:Sm st st') (m:MV key a b p x y) (hx:1<=x) (hy:2<=y) (hn:n<=p.size):wpS (model prog w) A E s (if mg > 1 then tG a b x y p ac bc (mg - 1) else tG a b x y p ac bc mg) (HiQ key a b st n) st':=by
 split
 ·exact rT C hκ ua ub ha hb h0 (mg - 1) sm m hx hy hn
 ·exact rT C hκ ua ub ha hb h0 mg sm m hx hy hn
abbrev HiD:=Option (Array Keyed) × Nat × Nat × Array Keyed × Nat × Nat
abbrev HiE:=Option (Array Keyed) × Nat × Nat × Array Keyed × Nat
def u7 (a b:Array Keyed) (mg:Nat) (c:HiD):StateT SortSt Sem (ForInStep HiD):=do
  let u ← elem' b (c.2.2.1 - 1)
  let v ← elem' a (c.2.1 - 1)
  let __x ← lt' u v
  match __x with
  | some aw =>
    if aw=true then do
      let z ← elem' a (c.2.1 - 1)
      if (c.2.1 - 1 == 0)=true then pure (.done (some (a.extract 0 (c.2.1 - 1) ++ b.extract 0 c.2.2.1 ++ (c.2.2.2.1.push z).reverse),c.2.1 - 1,c.2.2.1,c.2.2.2.1.push z,c.2.2.2.2.1 + 1,0))
      else if c.2.2.2.2.1 + 1 ≥ mg then pure (.done (none,c.2.1 - 1,c.2.2.1,c.2.2.2.1.push z,c.2.2.2.2.1 + 1,0))
      else pure (.yield (none,c.2.1 - 1,c.2.2.1,c.2.2.2.1.push z,c.2.2.2.2.1 + 1,0))
    else do
      let z ← elem' b (c.2.2.1 - 1)
      if (c.2.2.1 - 1 == 1)=true then pure (.done (some (b.extract 0 (c.2.2.1 - 1) ++ a.extract 0 c.2.1 ++ (c.2.2.2.1.push z).reverse),c.2.1,c.2.2.1 - 1,c.2.2.2.1.push z,0,c.2.2.2.2.2 + 1))
      else if c.2.2.2.2.2 + 1 ≥ mg then pure (.done (none,c.2.1,c.2.2.1 - 1,c.2.2.2.1.push z,0,c.2.2.2.2.2 + 1))
      else pure (.yield (none,c.2.1,c.2.2.1 - 1,c.2.2.2.1.push z,0,c.2.2.2.2.2 + 1))
  | _=>pure (.done (some (a.extract 0 c.2.1 ++ b.extract 0 c.2.2.1 ++ c.2.2.2.1.reverse),c.2.1,c.2.2.1,c.2.2.2.1,c.2.2.2.2.1,c.2.2.2.2.2))
def zk (a b:Array Keyed) (c:HiC):StateT SortSt Sem (ForInStep HiC) :=
 if c.2.2.2.2.1 > 1 then tG a b c.2.1 c.2.2.1 c.2.2.2.1 c.2.2.2.2.2.1 c.2.2.2.2.2.2 (c.2.2.2.2.1 - 1) else tG a b c.2.1 c.2.2.1 c.2.2.2.1 c.2.2.2.2.2.1 c.2.2.2.2.2.2 c.2.2.2.2.1
def qA (a b:Array Keyed) (c:HiE):StateT SortSt Sem (ForInStep HiE):=do
  let d ← forIn [0:a.size + b.size] ((none,c.2.1,c.2.2.1,c.2.2.2.1,0,0):HiD) fun _ d=>u7 a b c.2.2.2.2 d
  match d.1 with
  | some r=>pure (.done (some r,d.2.1,d.2.2.1,d.2.2.2.1,c.2.2.2.2))
  | none=>do
    rule "list.sort.gallop"
    let e ← forIn [0:a.size + b.size] ((none,d.2.1,d.2.2.1,d.2.2.2.1,c.2.2.2.2 + 1,d.2.2.2.2.1,d.2.2.2.2.2):HiC) fun _ e=>zk a b e
    match e.1 with
    | some r=>pure (.done (some r,e.2.1,e.2.2.1,e.2.2.2.1,e.2.2.2.2.1))
    | none=>do
      modify (fun s=>SortSt.mk' (kindOf s) (arrOf s) (pendingOf s) (e.2.2.2.2.1 + 1) (failedOf s))
      pure (.yield (none,e.2.1,e.2.2.1,e.2.2.2.1,e.2.2.2.2.1 + 1))
theorem xo (a b:Array Keyed):mHi a b=(do
    rule "list.sort.merge-hi"
    let z ← elem' a (a.size - 1)
    if (a.size - 1 == 0)=true then pure (a.extract 0 (a.size - 1) ++ b.extract 0 b.size ++ (#[z]:Array Keyed).reverse)
    else if (b.size == 1)=true then pure (b.extract 0 b.size ++ a.extract 0 (a.size - 1) ++ (#[z]:Array Keyed).reverse)
    else do
      let g ← get
      let c ← forIn [0:a.size + b.size] ((none,a.size - 1,b.size, #[z],gallopOf g):HiE) fun _ c=>qA a b c
      match c.1 with
      | some r=>pure r
      | none=>unsupported "internal:list.sort.merge-bound"):=by
  kernel_rfl
def HdI (key:Keyed->O.α) (a b:Array Keyed) (st:SortSt) (n:Nat) (c:HiD) (st':SortSt):Prop:=Sm st st'/\∃ x y o' ac bc,c=(none,x,y,o',ac,bc)/\MV key a b o' x y/\1<=x/\2<=y/\n<=o'.size
def HdQ (key:Keyed->O.α) (a b:Array Keyed) (st:SortSt) (n:Nat) (c:HiD) (st':SortSt):Prop:=Sm st st'/\((∃ r x y o ac bc,c=(some r,x,y,o,ac,bc)/\d7 key a b r)\/∃ x y o' ac bc,c=(none,x,y,o',ac,bc)/\MV key a b o' x y/\1<=x/\2<=y/\n<=o'.size)
theorem u9 (C:Cmp prog w A s O key U κ) {a b:Array Keyed} {st st':SortSt} (hκ : kindOf st = κ) (ua:∀ p ∈ a.toList,U p) (ub:∀ p ∈ b.toList,U p)
  (ha:a.toList.Pairwise (Le key)) (hb:b.toList.Pairwise (Le key)) (h0:∀ p q,b[0]? = some p->q ∈ a.toList->Le key p q)
  {mg n m':Nat} {c:HiD} (I:HdI key a b st n c st') (hm:m'<=n + 1) {Q:ForInStep HiD->SortSt->Prop} (h:∀ r st',(match r with | .done c'=>HdQ key a b st (n + 1) c' st' | .yield c'=>HdI key a b st m' c' st')->Q r st'):wpS (model prog w) A E s (u7 a b mg c) Q st':=by
 obtain ⟨sm2,x,y,o',ac,bc,rfl,m,hx,hy,hz⟩:=I
 unfold u7
 have bx:=m.hx
 have by':=m.hy
 obtain ⟨za,ea⟩:=bp (show x - 1 < a.size by omega)
 obtain ⟨zb,eb⟩:=bp (show y - 1 < b.size by omega)
 refine wpS_bind (bj eb (wpS_bind (bj ea (wpS_bind (C.lt _ st' zb za _ (sm2.k.trans hκ) (ub _ (bW eb)) (ua _ (bW ea)) ?_)))))
 dsimp only
 have sz:∀ z,n + 1<=(o'.push z).size:=fun z=>by rw [C9]; exact Fi hz
 cases hlt:O.blt (key zb) (key za) with
 | true =>
  rw [if_pos rfl]
  refine wpS_bind (bj ea ?_)
  have m1:=m.jl hx ea ha fun t ht=>by
   obtain ⟨n,hn,e⟩:=bq ht
   exact Bx (aJ hb e (aG eb) (CJ hn)) (B5 hlt)
  by_cases c3:(x - 1 == 0)=true
  ·rw [if_pos c3]
   exact wpS_pure (h _ _ ⟨sm2,.inl ⟨_,_,_,_,_,_,rfl,m1.tD hb (beq_iff_eq.mp c3)⟩⟩)
  ·rw [if_neg c3]
   have c3':=u6 c3
   split
   ·exact wpS_pure (h _ _ ⟨sm2,.inr ⟨_,_,_,_,_,rfl,m1,c3',hy,sz _⟩⟩)
   ·exact wpS_pure (h _ _ ⟨sm2,_,_,_,_,_,rfl,m1,c3',hy,BF hm (sz _)⟩)
 | false =>
  rw [if_neg A9]
  refine wpS_bind (bj eb ?_)
  have m1:=m.lY (Gk hy) eb hb fun t ht=>by
   obtain ⟨n,hn,e⟩:=bq ht
   exact Bx (aJ ha e (aG ea) (CJ hn)) (show O.kle (key za) (key zb) from hlt)
  by_cases c3:(y - 1 == 1)=true
  ·rw [if_pos c3]
   exact wpS_pure (h _ _ ⟨sm2,.inl ⟨_,_,_,_,_,_,rfl,m1.first ha hb (beq_iff_eq.mp c3) h0⟩⟩)
  ·rw [if_neg c3]
   have c3':=xh (CJ hy) c3
   split
   ·exact wpS_pure (h _ _ ⟨sm2,.inr ⟨_,_,_,_,_,rfl,m1,hx,c3',sz _⟩⟩)
   ·exact wpS_pure (h _ _ ⟨sm2,_,_,_,_,_,rfl,m1,hx,c3',BF hm (sz _)⟩)
def HeI (key:Keyed->O.α) (a b:Array Keyed) (st:SortSt) (n:Nat) (c:HiE) (st':SortSt):Prop:=Sm st st'/\∃ x y o mg,c=(none,x,y,o,mg)/\MV key a b o x y/\1<=x/\2<=y/\n + 1<=o.size
def HeQ (key:Keyed->O.α) (a b:Array Keyed) (st:SortSt) (c:HiE) (st':SortSt):Prop:=Sm st st'/\((∃ r x y o mg,c=(some r,x,y,o,mg)/\d7 key a b r)\/∃ x y o mg,c=(none,x,y,o,mg)/\MV key a b o x y/\1<=x/\2<=y/\a.size + b.size + 1<=o.size)
theorem tH (C:Cmp prog w A s O key U κ) {a b:Array Keyed} {st st':SortSt} (hκ : kindOf st = κ) (ua:∀ p ∈ a.toList,U p) (ub:∀ p ∈ b.toList,U p)
  (ha:a.toList.Pairwise (Le key)) (hb:b.toList.Pairwise (Le key)) (h0:∀ p q,b[0]? = some p->q ∈ a.toList->Le key p q) (na:0 < a.size)
  {n:Nat} {c:HiE} (I:HeI key a b st n c st'):wpS (model prog w) A E s (qA a b c) (fun r st'=>match r with | .done c'=>HeQ key a b st c' st' | .yield c'=>HeI key a b st (n + 1) c' st') st':=by
 obtain ⟨sm1,x,y,o,mg,rfl,m,hx,hy,hz⟩:=I
 unfold qA
 have q1:1<=a.size + b.size:=BF na (CH _ _)
 refine wpS_bind (wpS_mono (wpS_forRange (I:=fun j c st'=>HdI key a b st (o.size + min j 1) c st') (Q:=HdQ key a b st (o.size + 1)) (fun j c st2 _ hj J=>u9 (n:=o.size + min j 1) (m':=o.size + min (j + 1) 1) C hκ ua ub ha hb h0 J (by omega) fun r st' k => ?_) (fun c st' J => ?_) ⟨sm1,x,y,o,0,0,rfl,m,hx,hy,AS _⟩) ?_)
 ·cases r with
  | done c'=>exact k.imp id fun z=>z.imp id fun ⟨x,y,o',ac,bc,e,m,hx,hy,hz⟩=>⟨x,y,o',ac,bc,e,m,hx,hy,by omega⟩
  | yield c'=>exact k
 ·obtain ⟨sm,x,y,o',ac,bc,e,m,hx,hy,hz⟩:=J
  exact ⟨sm,.inr ⟨x,y,o',ac,bc,e,m,hx,hy,by omega⟩⟩
 rintro c st2 ⟨sm2,⟨r,x,y,o',ac,bc,rfl,fr⟩ | ⟨x,y,o',ac,bc,rfl,m,hx,hy,hz2⟩⟩
 ·exact wpS_pure ⟨sm2,.inl ⟨_,_,_,_,_,rfl,fr⟩⟩
 dsimp only
 refine wpS_bind (wpS_lift (wpAny_rule ⟨rfl,?_⟩))
 refine wpS_bind (wpS_mono (wpS_forRange (I:=fun _ c st'=>HiQ key a b st o'.size (.yield c) st') (Q:=fun c st'=>HiQ key a b st o'.size (.done c) st') (fun j c st3 _ hj J => ?_) (fun c st' J=>⟨J.1,.inr J.2⟩) ⟨sm2,x,y,o',_,ac,bc,rfl,m,hx,hy,AS _⟩) ?_)
 ·obtain ⟨sm3,x,y,p,mg,ac,bc,rfl,m,hx,hy,hz3⟩:=J
  refine wpS_mono (xk C hκ ua ub ha hb h0 sm3 m hx hy hz3) ?_
  intro r st' h
  cases r <;> exact h
 rintro c st3 ⟨sm3,⟨r,x,y,p,mg,ac,bc,rfl,fr⟩ | ⟨x,y,p,mg,ac,bc,rfl,m,hx,hy,hz3⟩⟩
 ·exact wpS_pure ⟨sm3,.inl ⟨_,_,_,_,_,rfl,fr⟩⟩
 ·dsimp only
  exact wpS_bind (wpS_modify (wpS_pure ⟨sm3.mg _,x,y,p,_,rfl,m,hx,hy,by omega⟩))
theorem zo (C:Cmp prog w A s O key U κ) {a b:Array Keyed} {st:SortSt} {Q:Array Keyed->SortSt->Prop} (hκ : kindOf st = κ) (ua:∀ p ∈ a.toList,U p) (ub:∀ p ∈ b.toList,U p)
  (ha:a.toList.Pairwise (Le key)) (hb:b.toList.Pairwise (Le key)) (na:0 < a.size) (nb:0 < b.size) (h0:∀ p q,b[0]? = some p->q ∈ a.toList->Le key p q) (hl:∀ p q,p ∈ b.toList->a[a.size - 1]? = some q->Le key p q)
  (h:∀ r st',Sm st st'->d7 key a b r->Q r st'):wpS (model prog w) A E s (mHi a b) Q st:=by
 rw [xo]
 refine wpS_bind (wpS_lift (wpAny_rule ⟨rfl,?_⟩))
 obtain ⟨a0,ea0⟩:=bp (Ey na)
 have m0:MV key a b #[] a.size b.size:=by
  refine ⟨AS _,AS _,?_,List.Pairwise.nil,fun p _ q hq=>by cases hq⟩
  rw [A7 (by rw [AW]; exact AS _),A7 (by rw [AW]; exact AS _)]
  show (a.toList ++ b.toList ++ []).Perm _
  rw [BM]
 have m1:MV key a b #[a0] (a.size - 1) b.size:=m0.jl na ea0 ha fun t ht=>hl t a0 (C6 ht) ea0
 refine wpS_bind (bj ea0 ?_)
 by_cases c1:(a.size - 1 == 0)=true
 ·rw [if_pos c1]
  exact wpS_pure (h _ st (Sm.refl st) (m1.tD hb (beq_iff_eq.mp c1)))
 rw [if_neg c1]
 by_cases c2:(b.size == 1)=true
 ·rw [if_pos c2]
  exact wpS_pure (h _ st (Sm.refl st) (m1.first ha hb (beq_iff_eq.mp c2) h0))
 rw [if_neg c2]
 refine wpS_bind (wpS_get ?_)
 refine wpS_bind (wpS_mono (wpS_forRange (I:=fun i c st'=>HeI key a b st i c st') (Q:=HeQ key a b st) (fun i c st1 _ _ J=>wpS_mono (tH C hκ ua ub ha hb h0 na J) fun r st' h=>by cases r <;> exact h) (fun c st' J => ?_) ⟨Sm.refl st,_,_,_,_,rfl,m1,u6 c1,xh nb c2,AS _⟩) ?_)
 ·obtain ⟨sm,x,y,o,mg,e,m,hx,hy,hz⟩:=J
  exact ⟨sm,.inr ⟨x,y,o,mg,e,m,hx,hy,by omega⟩⟩
 rintro c st' ⟨sm,⟨r,x,y,o,mg,rfl,fr⟩ | ⟨x,y,o,mg,rfl,m,hx,hy,hz⟩⟩
 ·exact wpS_pure (h r st' sm fr)
 ·have:=m.size
  omega
end
open PySem PyProof.Rows
theorem zp (i:Nat):mAt i=(do
    let s ← get
    let (some (sa,na,pw),some (sb,nb,_)):=((pendingOf s)[i]?,(pendingOf s)[i + 1]?) | unsupported "internal:list.sort.pending"
    set (SortSt.mk' (kindOf s) (arrOf s) (((pendingOf s).setIfInBounds i (sa,na + nb,pw)).eraseIdxIfInBounds (i + 1)) (gallopOf s) (failedOf s))
    let some k ← gal false (← elem' (arrOf s) sb) (arrOf s) sa na 0 | return false
    let (sa,na):=(sa + k,na - k)
    if na == 0 then return true
    let some nb ← gal true (← elem' (arrOf s) (sa + na - 1)) (arrOf s) sb nb (nb - 1) | return false
    if nb == 0 then return true
    let x:=(arrOf s).extract sa sb
    let y:=(arrOf s).extract sb (sb + nb)
    let mm ← if na<=nb then mLo x y else mHi x y
    modify fun s=>setArr s (mm.toList.zipIdx.foldl (fun a (p,j)=>a.setIfInBounds (sa + j) p) (arrOf s))
    return (failedOf (← get)).isNone):=rfl
theorem ib {α : Type} (p r:List α) (k:Nat):(p ++ r).drop (p.length + k)=r.drop k:=by
 rw [<- G1,EX]
theorem qB {α : Type} (p r:List α) (k:Nat):(p ++ r)[p.length + k]? = r[k]? := by
 rw [Bk (by omega),Dg]
theorem yk {α : Type} (p a r:List α) {k:Nat} (h:k < a.length):(p ++ (a ++ r))[p.length + k]? = a[k]? := by
 rw [qB,Bf h]
theorem written (l:List Keyed):∀ (c n:Nat) (a:Array Keyed),c + n + l.length<=a.size->((l.zipIdx n).foldl (fun (a:Array Keyed) (pj:Keyed × Nat)=>a.setIfInBounds (c + pj.2) pj.1) a).toList=a.toList.take (c + n) ++ l ++ a.toList.drop (c + n + l.length):=by
 induction l with
 | nil=>intro c n a _; simp
 | cons z l ih =>
  intro c n a h
  rw [Bn] at h
  rw [List.zipIdx_cons,Fv,ih c (n + 1) _ (by rw [E3]; omega)]
  have e:(a.setIfInBounds (c + n) z).toList=a.toList.set (c + n) z:=EH ..
  rw [e]
  have lt:c + n < a.toList.length:=by rw [AW]; omega
  have t1:(a.toList.set (c + n) z).take (c + (n + 1))=a.toList.take (c + n) ++ [z]:=by
   rw [show c + (n + 1)=c + n + 1 by omega,BU,List.take_set_of_le (AS _),BX lt]
   rfl
  have t2:(a.toList.set (c + n) z).drop (c + (n + 1) + l.length)=a.toList.drop (c + n + (l.length + 1)):=by
   rw [List.drop_set_of_lt (by omega),show c + (n + 1) + l.length=c + n + (l.length + 1) by omega]
  rw [t1,t2,Bn]
  simp
section
variable {prog:Program} {w:World} {A:Around} {E:Value->Shared->Prop} {s:Shared} {O:KeyOrd} {key:Keyed->O.α} {U:Keyed->Prop} {κ : SortKind}
theorem zq (C:Cmp prog w A s O key U κ) {i pw pw2:Nat} {st:SortSt} {Q:Bool->SortSt->Prop} {P X Y S:List Keyed} (hκ : kindOf st = κ) (hf:failedOf st=none)
    (ha:(arrOf st).toList=P ++ (X ++ (Y ++ S))) (hu:∀ p ∈ (arrOf st).toList,U p) (h1:(pendingOf st)[i]? = some (P.length,X.length,pw)) (h2:(pendingOf st)[i + 1]? = some (P.length + X.length,Y.length,pw2))
    (nx:0 < X.length) (ny:0 < Y.length) (sx:X.Pairwise (Le key)) (sy:Y.Pairwise (Le key))
    (h:∀ st' M,M.Perm (X ++ Y)->M.Pairwise (Le key)->(arrOf st').toList=P ++ (M ++ S)->pendingOf st'=((pendingOf st).setIfInBounds i (P.length,X.length + Y.length,pw)).eraseIdxIfInBounds (i + 1)->kindOf st' = κ -> failedOf st'=none->Q true st') :
    wpS (model prog w) A E s (mAt i) Q st:=by
  rw [zp]
  refine wpS_bind (wpS_get ?_)
  rw [h1,h2]
  dsimp only
  refine wpS_bind (show wpS (model prog w) A E s (modify fun _=>SortSt.mk' (kindOf st) (arrOf st) (((pendingOf st).setIfInBounds i (P.length,X.length + Y.length,pw)).eraseIdxIfInBounds (i + 1)) (gallopOf st) (failedOf st)) _ st from wpS_modify ?_)
  generalize hst1:SortSt.mk' (kindOf st) (arrOf st) (((pendingOf st).setIfInBounds i (P.length,X.length + Y.length,pw)).eraseIdxIfInBounds (i + 1)) (gallopOf st) (failedOf st)=st1
  have k1:kindOf st1 = κ := by rw [<- hst1]; exact hκ
  have a1:arrOf st1=arrOf st:=by rw [<- hst1]
  have p1:pendingOf st1=((pendingOf st).setIfInBounds i (P.length,X.length + Y.length,pw)).eraseIdxIfInBounds (i + 1):=by rw [<- hst1]
  have f1:failedOf st1=none:=by rw [<- hst1]; exact hf
  have sz:(arrOf st).size=P.length + X.length + Y.length + S.length:=by
    rw [<- AW,ha]; simp only [AQ]; omega
  have atX:∀ j,j < X.length->(arrOf st)[P.length + j]? = X[j]? := fun j hj=>by
    rw [<- A3,ha,yk _ _ _ hj]
  have atY:∀ j,j < Y.length->(arrOf st)[P.length + X.length + j]? = Y[j]? := fun j hj=>by
    rw [<- A3,ha, <- Bo,show P.length + X.length + j=(P ++ X).length + j by rw [AQ],yk _ _ _ hj]
  have uX:∀ p ∈ X,U p:=fun p hp=>hu p (by rw [ha]; simp [hp])
  have uY:∀ p ∈ Y,U p:=fun p hp=>hu p (by rw [ha]; simp [hp])
  have xget:∀ j,j < X.length->∃ z,X[j]? = some z:=fun j hj=>⟨X[j],by simp [hj]⟩
  have yget:∀ j,j < Y.length->∃ z,Y[j]? = some z:=fun j hj=>⟨Y[j],by simp [hj]⟩
  obtain ⟨y0,ey0⟩:=yget 0 ny
  have plain:(∀ p ∈ X,∀ q ∈ Y,Le key p q)->Q true st1:=fun hle=>h st1 (X ++ Y) (DH _) (B6.mpr ⟨sx,sy,hle⟩) (by rw [a1,ha,Bo]) p1 k1 f1
  refine wpS_bind (bj (z:=y0) (by rw [show P.length + X.length=P.length + X.length + 0 by omega,atY 0 ny]; exact ey0) ?_)
  refine wpS_bind (zg C (fun j=>(X[j]?).getD y0) k1 (uY _ (AY ey0)) (fun j hj => ?_) (fun j hj => ?_) (fun i j hij hj => ?_) nx fun k hk g1 g2 => ?_)
  · obtain ⟨z,e⟩:=xget j hj
    rw [atX j hj,e]; rfl
  · obtain ⟨z,e⟩:=xget j hj
    rw [e]; exact uX _ (AY e)
  · obtain ⟨z,e⟩:=xget i (by omega)
    obtain ⟨z',e'⟩:=xget j hj
    rw [e,e']; exact aJ sx e e' hij
  dsimp only at g1 g2 ⊢
  have y0le:∀ q ∈ Y,Le key y0 q:=fun q hq=>by
    obtain ⟨n,e⟩:=Bt.mp hq
    exact aJ sy ey0 e (Br _)
  by_cases c1:(X.length - k == 0)=true
  · rw [if_pos c1]
    refine wpS_pure (plain fun p hp q hq => ?_)
    obtain ⟨n,e⟩:=Bt.mp hp
    have hn:n < X.length:=(AU.mp e).1
    have z:=g1 n (by have:=beq_iff_eq.mp c1; omega)
    rw [e] at z
    exact Bx z (y0le q hq)
  rw [if_neg c1]
  have kx:k < X.length:=by have:X.length - k ≠ 0:=fun z=>c1 (beq_iff_eq.mpr z); omega
  obtain ⟨xl,exl⟩:=xget (X.length - 1) (by omega)
  have xlle:∀ p ∈ X,Le key p xl:=fun p hp=>by
    obtain ⟨n,e⟩:=Bt.mp hp
    have hn:n < X.length:=(AU.mp e).1
    exact aJ sx e exl (by omega)
  refine wpS_bind (bj (z:=xl) (by rw [show P.length + k + (X.length - k) - 1=P.length + (X.length - 1) by omega,atX _ (by omega)]; exact exl) ?_)
  refine wpS_bind (zh C (fun j=>(Y[j]?).getD xl) k1 (uX _ (AY exl)) (fun j hj => ?_) (fun j hj => ?_) (fun i j hij hj => ?_) (by omega) fun m hm e1 e2 => ?_)
  · obtain ⟨z,e⟩:=yget j hj
    rw [atY j hj,e]; rfl
  · obtain ⟨z,e⟩:=yget j hj
    rw [e]; exact uY _ (AY e)
  · obtain ⟨z,e⟩:=yget i (by omega)
    obtain ⟨z',e'⟩:=yget j hj
    rw [e,e']; exact aJ sy e e' hij
  dsimp only at e1 e2 ⊢
  by_cases c2:(m == 0)=true
  · rw [if_pos c2]
    refine wpS_pure (plain fun p hp q hq => ?_)
    obtain ⟨n,e⟩:=Bt.mp hq
    have hn:n < Y.length:=(AU.mp e).1
    have z:=e2 n (by have:=beq_iff_eq.mp c2; omega) hn
    rw [e] at z
    exact Bx (xlle p hp) z
  rw [if_neg c2]
  have m0:0 < m:=by have:m ≠ 0:=fun z=>c2 (beq_iff_eq.mpr z); omega
  have ex:((arrOf st).extract (P.length + k) (P.length + X.length)).toList=X.drop k:=by
    rw [CI,Ce,ha,ib,Et (by omega)]
    rw [List.take_left' (by rw [BS]; omega)]
  have ey:((arrOf st).extract (P.length + X.length) (P.length + X.length + m)).toList=Y.take m:=by
    have e:=ib (P ++ X) (Y ++ S) 0
    rw [AQ,Gs,Eg,Bo] at e
    rw [CI,Ce,ha,e,Dg,Dm hm]
  have sX:((arrOf st).extract (P.length + k) (P.length + X.length)).size=X.length - k:=by rw [<- AW,ex,BS]
  have sY:((arrOf st).extract (P.length + X.length) (P.length + X.length + m)).size=m:=by rw [<- AW,ey,BL]; omega
  generalize (arrOf st).extract (P.length + k) (P.length + X.length)=xa at ex sX ⊢
  generalize (arrOf st).extract (P.length + X.length) (P.length + X.length + m)=ya at ey sY ⊢
  have xa0:∀ q ∈ xa.toList,Le key y0 q:=fun q hq=>by
    rw [ex] at hq
    obtain ⟨n,hn,e⟩:=bh hq
    have hn2:n < X.length:=(AU.mp e).1
    have z:=g2 n hn hn2
    rw [e] at z
    exact B5 z
  have yaL:∀ p ∈ ya.toList,Le key p xl:=fun p hp=>by
    rw [ey] at hp
    obtain ⟨n,hn,e⟩:=bq hp
    have z:=e1 n hn
    rw [e] at z
    exact B5 z
  have first:∀ p q,ya[0]? = some p->q ∈ xa.toList->Le key p q:=fun p q hp hq=>by
    rw [<- A3,ey,B7,if_pos m0,ey0] at hp
    cases hp
    exact xa0 q hq
  have lst:∀ p q,p ∈ ya.toList->xa[xa.size - 1]? = some q->Le key p q:=fun p q hp hq=>by
    rw [<- A3,ex,Dr,sX,show k + (X.length - k - 1)=X.length - 1 by omega,exl] at hq
    cases hq
    exact yaL p hp
  have sxa:xa.toList.Pairwise (Le key):=by rw [ex]; exact sx.sublist (BZ _ _)
  have sya:ya.toList.Pairwise (Le key):=by rw [ey]; exact sy.sublist (B3 _ _)
  have uxa:∀ p ∈ xa.toList,U p:=fun p hp=>by rw [ex] at hp; exact uX p (DE hp)
  have uya:∀ p ∈ ya.toList,U p:=fun p hp=>by rw [ey] at hp; exact uY p (C6 hp)
  have post:∀ r st',Sm st1 st'->d7 key xa ya r->wpS (model prog w) A E s (do modify fun s=>setArr s (r.toList.zipIdx.foldl (fun a (p,j)=>a.setIfInBounds (P.length + k + j) p) (arrOf s)); return (failedOf (← get)).isNone) Q st':=by
    rintro r st' sm ⟨fp,fs⟩
    refine wpS_bind (wpS_modify (wpS_bind (wpS_get (wpS_pure ?_))))
    have rl:r.toList.length=X.length - k + m:=by rw [fp.length_eq,AQ,AW,AW,sX,sY]
    have wr:=written r.toList (P.length + k) 0 (arrOf st') (by rw [sm.a,a1,sz,rl]; omega)
    have e:(failedOf (setArr st' (r.toList.zipIdx.foldl (fun a (p,j)=>a.setIfInBounds (P.length + k + j) p) (arrOf st')))).isNone=true:=by
      show (failedOf st').isNone=true
      rw [sm.f,f1]; rfl
    rw [e]
    have t1:(P ++ (X ++ (Y ++ S))).take (P.length + k + 0)=P ++ X.take k:=by
      rw [Gs,List.take_append,A7 (by omega),Dg,Dm (by omega)]
    have t2:(P ++ (X ++ (Y ++ S))).drop (P.length + k + 0 + r.toList.length)=Y.drop m ++ S:=by
      rw [rl,show P.length + k + 0 + (X.length - k + m)=P.length + (X.length + m) by omega,ib,ib,Et hm]
    have perm:(X.take k ++ (r.toList ++ Y.drop m)).Perm (X ++ Y):=by
      rw [ex,ey] at fp
      have q:(X.take k ++ (r.toList ++ Y.drop m)).Perm (X.take k ++ ((X.drop k ++ Y.take m) ++ Y.drop m)):=Cg _ (CP _ fp)
      have e3:X.take k ++ ((X.drop k ++ Y.take m) ++ Y.drop m)=X ++ Y:=by
        rw [Bo (X.drop k),B0, <- Bo,B0]
      rw [e3] at q
      exact q
    have inr:∀ z ∈ r.toList,z ∈ X.drop k\/z ∈ Y.take m:=fun z hz=>by
      have q:=fp.mem_iff.mp hz
      rw [ex,ey] at q
      exact A2.mp q
    refine h _ (X.take k ++ (r.toList ++ Y.drop m)) perm ?_ ?_ ?_ (sm.k.trans k1) (sm.f.trans f1)
    · refine B6.mpr ⟨sx.sublist (B3 _ _),B6.mpr ⟨fs,sy.sublist (BZ _ _),fun p hp q hq => ?_⟩,fun p hp q hq => ?_⟩
      · obtain ⟨n,hn,en⟩:=bh hq
        have hn2:n < Y.length:=(AU.mp en).1
        rcases inr p hp with z | z
        · have g:=e2 n hn hn2
          rw [en] at g
          exact Bx (xlle p (DE z)) g
        · obtain ⟨j,hj,ej⟩:=bq z
          exact aJ sy ej en (by omega)
      · obtain ⟨n,hn,en⟩:=bq hp
        have g:=g1 n hn
        rw [en] at g
        rcases A2.mp hq with z | z
        · rcases inr q z with z | z
          · obtain ⟨j,hj,ej⟩:=bh z
            exact aJ sx en ej (by omega)
          · exact Bx g (y0le q (C6 z))
        · exact Bx g (y0le q (DE z))
    · show (r.toList.zipIdx.foldl (fun a (p,j)=>a.setIfInBounds (P.length + k + j) p) (arrOf st')).toList=_
      rw [wr,sm.a,a1,ha,t1,t2]
      simp only [Bo]
    · show pendingOf st'=_
      rw [sm.p,p1]
  by_cases c3:X.length - k<=m
  · rw [if_pos c3]
    exact wpS_bind (zj C k1 uxa uya sxa sya (by omega) (by omega) (fun p q hp hq=>first p q hp (bW hq)) lst fun r st' sm fr=>post r st' sm fr)
  · rw [if_neg c3]
    exact wpS_bind (zo C k1 uxa uya sxa sya (by omega) (by omega) first lst fun r st' sm fr=>post r st' sm fr)
end
open PySem PyProof.Rows
theorem xq (lo m:Nat):ze lo m=(do
    let mut n:=1
    for _ in [1:m] do
      let some sm ← ltAt' (lo + n) (lo + n - 1)
        | return none
      if sm then break
      n:=n + 1
    if n == m then return some n
    if n > 1 then
      let some ro ← ltAt' lo (lo + n - 1)
        | return none
      if ro then return some n
      reverseSlice' lo (lo + n)
    rule "list.sort.descending-run"
    n:=n + 1
    let mut q:=0
    for _ in [n:m] do
      let some sm ← ltAt' (lo + n) (lo + n - 1)
        | return none
      if sm then
        if q > 0 then reverseSlice' (lo + n - (q + 1)) (lo + n)
        q:=0
      else
        let some lg ← ltAt' (lo + n - 1) (lo + n)
          | return none
        if lg then break
        q:=q + 1
      n:=n + 1
    if q > 0 then reverseSlice' (lo + n - (q + 1)) (lo + n)
    reverseSlice' lo (lo + n)
    for _ in [n:m] do
      let some sm ← ltAt' (lo + n) (lo + n - 1)
        | return none
      if sm then break
      n:=n + 1
    return some n):=rfl
theorem va (lo n ok:Nat):uU lo n ok=(do
    for k in [max ok 1:n] do
      let mut l:=0; let mut r:=k
      for _ in [0:k] do
        if l ≥ r then break
        let m:=(l + r) / 2
        let some le ← ltAt' (lo + k) (lo + m)
          | return false
        if le then r:=m else l:=m + 1
      moveDown' (lo + k) (lo + l)
    return true):=rfl
section
variable {O:KeyOrd} (key:Keyed->O.α)
def kk (xs:Array Keyed) (i:Nat):O.α := key ((xs[i]?).getD (Value.none,Value.none))
def Up (xs:Array Keyed) (lo n:Nat):Prop:=∀ i j,lo<=i->i<=j->j < lo + n->O.kle (kk key xs i) (kk key xs j)
def Down (xs:Array Keyed) (lo n:Nat):Prop:=∀ i j,lo<=i->i<=j->j < lo + n->O.kle (kk key xs j) (kk key xs i)
variable {key}
theorem ic {xs ys:Array Keyed} {i j:Nat} (h:xs[i]? = ys[j]?):kk key xs i=kk key ys j:=by unfold kk; rw [h]
theorem mf {xs:Array Keyed} {i j:Nat} (hj:j<=xs.size) (k:Nat):kk key (mirror xs i j ((j - i) / 2)) k=if i<=k/\k < j then kk key xs (i + j - 1 - k) else kk key xs k:=by
 have e:=getElem?_mirror_all (i:=i) hj k
 by_cases h:i<=k/\k < j
 ·rw [if_pos h] at e ⊢; exact ic e
 ·rw [if_neg h] at e ⊢; exact ic e
theorem fk {xs:Array Keyed} {i j:Nat} (hj:j<=xs.size) (he:∀ k,i<=k->k < j->kk key xs k=kk key xs (j - 1)) (k:Nat):kk key (mirror xs i j ((j - i) / 2)) k=kk key xs k:=by
 rw [mf hj]
 split
 ·rw [he _ (by omega) (by omega),he k (by omega) (by omega)]
 ·rfl
end
structure SA (lo:Nat) (st st':SortSt):Prop where
 perm:(arrOf st').Perm (arrOf st)
 pre:∀ k,k < lo->(arrOf st')[k]? = (arrOf st)[k]?
 k:kindOf st'=kindOf st
 p:pendingOf st'=pendingOf st
 f:failedOf st'=failedOf st
theorem SA.refl (lo:Nat) (st:SortSt):SA lo st st:=⟨Array.Perm.refl _,fun _ _=>rfl,rfl,rfl,rfl⟩
theorem SA.size {lo:Nat} {st st':SortSt} (h:SA lo st st'):(arrOf st').size=(arrOf st).size:=h.perm.size_eq
theorem SA.mirror {lo:Nat} {st st':SortSt} (h:SA lo st st') {i j:Nat} (hi:lo<=i) (hj:j<=(arrOf st').size):SA lo st (setArr st' (mirror (arrOf st') i j ((j - i) / 2))) :=
 ⟨(mirror_perm _ _ _ _).trans h.perm,fun k hk=>by
  show (PyProof.Rows.mirror (arrOf st') i j ((j - i) / 2))[k]? = _
  rw [getElem?_mirror_all hj,if_neg (by omega)]
  exact h.pre k hk,h.k,h.p,h.f⟩
theorem SA.mem {lo:Nat} {st st':SortSt} (h:SA lo st st') {p:Keyed} (hp:p ∈ (arrOf st').toList):p ∈ (arrOf st).toList:=(EI.mp h.perm).mem_iff.mp hp
section
variable {prog:Program} {w:World} {A:Around} {E:Value->Shared->Prop} {s:Shared} {O:KeyOrd} {key:Keyed->O.α} {U:Keyed->Prop} {κ : SortKind}
theorem gr (C:Cmp prog w A s O key U κ) {st:SortSt} {i j:Nat} {Q:Option Bool->SortSt->Prop} (hκ : kindOf st = κ) (hu:∀ p ∈ (arrOf st).toList,U p) (hi:i < (arrOf st).size) (hj:j < (arrOf st).size)
  (h:Q (some (O.blt (kk key (arrOf st) i) (kk key (arrOf st) j))) st):wpS (model prog w) A E s (ltAt' i j) Q st:=by
 rw [ltAt'_eq]
 refine wpS_bind (wpS_get ?_)
 obtain ⟨x,ex⟩:=bp hi
 obtain ⟨y,ey⟩:=bp hj
 dsimp only
 refine wpS_bind (bj ex (wpS_bind (bj ey (C.lt _ st x y _ hκ (hu _ (bW ex)) (hu _ (bW ey)) ?_))))
 unfold kk at h
 rw [ex,ey] at h
 exact h
theorem xr (C:Cmp prog w A s O key U κ) {st:SortSt} {lo m:Nat} {Q:Option Nat->SortSt->Prop} (hκ : kindOf st = κ) (hu:∀ p ∈ (arrOf st).toList,U p) (hm:1<=m) (hz:lo + m=(arrOf st).size)
  (h:∀ n st',1<=n->n<=m->SA lo st st'->Up key (arrOf st') lo n->Q (some n) st'):wpS (model prog w) A E s (ze lo m) Q st:=by
 rw [xq]
 dsimp only
 refine wpS_bind (wpS_mono (wpS_forRange (I:=fun x c st'=>st=st'/\c=(none,x)/\Up key (arrOf st) lo x)
  (Q:=fun c st'=>st=st'/\∃ n,c=(none,n)/\1<=n/\n<=m/\Up key (arrOf st) lo n/\(n < m->O.klt (kk key (arrOf st) (lo + n)) (kk key (arrOf st) (lo + n - 1)))) ?step ?fin ⟨rfl,rfl,fun i j h1 h2 h3=>by rw [show i=j by omega]; exact Ck _⟩) ?post)
 case fin =>
  rintro c st' ⟨rfl,rfl,up⟩
  exact ⟨rfl,_,rfl,by omega,by omega,by rw [show max 1 m=m by omega] at up ⊢; exact up,by omega⟩
 case step =>
  rintro x c st' h1 h2 ⟨rfl,rfl,up⟩
  dsimp only
  refine wpS_bind (gr C hκ hu (by omega) (by omega) ?_)
  dsimp only
  cases hb:O.blt (kk key (arrOf st) (lo + x)) (kk key (arrOf st) (lo + x - 1)) with
  | true =>
   rw [if_pos rfl]
   exact wpS_pure ⟨rfl,x,rfl,h1,by omega,up,fun _=>hb⟩
  | false =>
   rw [if_neg (by simp)]
   refine wpS_pure ⟨rfl,rfl,fun i j k1 k2 k3 => ?_⟩
   by_cases hj:j=lo + x
   ·by_cases hi:i=j
    ·rw [hi]; exact Ck _
    ·rw [hj]
     exact Bx (up i (lo + x - 1) k1 (by omega) (by omega)) hb
   ·exact up i j k1 k2 (by omega)
 case post =>
  rintro c st' ⟨rfl,n,rfl,n1,n2,up,br⟩
  dsimp only
  by_cases c1:(n == m)=true
  ·rw [if_pos c1]
   exact wpS_pure (h n st n1 n2 (SA.refl _ _) up)
  rw [if_neg c1]
  have nm:n < m:=by have:n ≠ m:=fun z=>c1 (beq_iff_eq.mpr z); omega
  have br:=br nm
  by_cases c2:n > 1
  case' pos =>
   rw [if_pos c2]
   refine wpS_bind (gr C hκ hu (by omega) (by omega) ?_)
   dsimp only
   cases hro:O.blt (kk key (arrOf st) lo) (kk key (arrOf st) (lo + n - 1))
   case' true =>
    rw [if_pos rfl]
    exact wpS_pure (h n st n1 n2 (SA.refl _ _) up)
   rw [if_neg (by simp)]
   have eqs:∀ k,lo<=k->k < lo + n->kk key (arrOf st) k=kk key (arrOf st) (lo + n - 1):=fun k k1 k2 =>
    FN (up k (lo + n - 1) k1 (by omega) (by omega)) (Bx (show O.kle (kk key (arrOf st) (lo + n - 1)) (kk key (arrOf st) lo) from hro) (up lo k (AS _) k1 k2))
   rw [reverseSlice'_eq]
   refine wpS_bind (wpS_modify ?_)
   have sa:=(SA.refl lo st).mirror (i:=lo) (j:=lo + n) (AS _) (by omega)
   have ke:=fk (key:=key) (xs:=arrOf st) (i:=lo) (j:=lo + n) (by omega) eqs
   have ka:∀ k,kk key (arrOf (setArr st (mirror (arrOf st) lo (lo + n) ((lo + n - lo) / 2)))) k=kk key (arrOf st) k:=ke
   generalize setArr st (mirror (arrOf st) lo (lo + n) ((lo + n - lo) / 2))=st1 at sa ka ⊢
   clear ke
  case' neg =>
   rw [if_neg c2]
   have eqs:∀ k,lo<=k->k < lo + n->kk key (arrOf st) k=kk key (arrOf st) (lo + n - 1):=fun k k1 k2=>by rw [show k=lo + n - 1 by omega]
   obtain ⟨st1,e1⟩:∃ st1,st1=st:=⟨_,rfl⟩
   have sa:SA lo st st1:=by rw [e1]; exact SA.refl _ _
   have ka:∀ k,kk key (arrOf st1) k=kk key (arrOf st) k:=fun k=>by rw [e1]
   rw [<- e1]
   clear e1
  all_goals
   refine wpS_bind (wpS_lift (wpAny_rule ⟨rfl,?_⟩))
   have dn:Down key (arrOf st1) lo (n + 1):=fun i j k1 k2 k3=>by
    rw [ka,ka]
    by_cases hj:j=lo + n
    ·by_cases hi:i=j
     ·rw [hi]; exact Ck _
     ·rw [hj,eqs i k1 (by omega)]
      exact B5 br
    ·rw [eqs i k1 (by omega),eqs j (by omega) (by omega)]
     exact Ck _
   clear eqs up br ka
   refine wpS_bind (wpS_mono (wpS_forRange (I:=fun x c st'=>∃ q,c=(none,x,q)/\x<=m/\SA lo st st'/\Down key (arrOf st') lo x/\q + 1<=x/\∀ k,lo + x - (q + 1)<=k->k < lo + x->kk key (arrOf st') k=kk key (arrOf st') (lo + x - 1))
    (Q:=fun c st'=>∃ x q,c=(none,x,q)/\1<=x/\x<=m/\SA lo st st'/\Down key (arrOf st') lo x/\q + 1<=x/\∀ k,lo + x - (q + 1)<=k->k < lo + x->kk key (arrOf st') k=kk key (arrOf st') (lo + x - 1)) ?step ?fin
    ⟨0,rfl,by omega,sa,dn,by omega,fun k k1 k2=>by rw [show k=lo + (n + 1) - 1 by omega]⟩) ?post)
   case fin =>
    rintro c st' ⟨q,rfl,xm,sa,dn,hq,he⟩
    exact ⟨_,q,rfl,by omega,xm,sa,dn,hq,he⟩
   case step =>
    rintro x c st2 h1 h2 ⟨q,rfl,xm,sa2,dn2,hq,he⟩
    dsimp only
    have sz:=sa2.size
    have u2:∀ p ∈ (arrOf st2).toList,U p:=fun p hp=>hu p (sa2.mem hp)
    refine wpS_bind (gr C (sa2.k.trans hκ) u2 (by omega) (by omega) ?_)
    dsimp only
    cases hb:O.blt (kk key (arrOf st2) (lo + x)) (kk key (arrOf st2) (lo + x - 1)) with
    | true =>
     rw [if_pos rfl]
     have dn3:Down key (arrOf st2) lo (x + 1):=fun i j k1 k2 k3=>by
      by_cases hj:j=lo + x
      ·by_cases hi:i=j
       ·rw [hi]; exact Ck _
       ·rw [hj]; exact Bx (B5 hb) (dn2 i (lo + x - 1) k1 (by omega) (by omega))
      ·exact dn2 i j k1 k2 (by omega)
     by_cases q0:q > 0
     ·rw [if_pos q0,reverseSlice'_eq]
      refine wpS_bind (wpS_modify (wpS_pure ?_))
      have ke:=fk (key:=key) (xs:=arrOf st2) (i:=lo + x - (q + 1)) (j:=lo + x) (by omega) he
      refine ⟨0,rfl,by omega,sa2.mirror (by omega) (by omega),fun i j k1 k2 k3 => ?_,by omega,fun k k1 k2=>by rw [show k=lo + (x + 1) - 1 by omega]⟩
      show O.kle (kk key (mirror (arrOf st2) (lo + x - (q + 1)) (lo + x) ((lo + x - (lo + x - (q + 1))) / 2)) j) (kk key (mirror (arrOf st2) (lo + x - (q + 1)) (lo + x) ((lo + x - (lo + x - (q + 1))) / 2)) i)
      rw [ke,ke]
      exact dn3 i j k1 k2 k3
     ·rw [if_neg q0]
      exact wpS_pure ⟨0,rfl,by omega,sa2,dn3,by omega,fun k k1 k2=>by rw [show k=lo + (x + 1) - 1 by omega]⟩
    | false =>
     rw [if_neg (by simp)]
     refine wpS_bind (gr C (sa2.k.trans hκ) u2 (by omega) (by omega) ?_)
     dsimp only
     cases hb2:O.blt (kk key (arrOf st2) (lo + x - 1)) (kk key (arrOf st2) (lo + x)) with
     | true =>
      rw [if_pos rfl]
      exact wpS_pure ⟨x,q,rfl,by omega,xm,sa2,dn2,hq,he⟩
     | false =>
      rw [if_neg (by simp)]
      have eq:=FN (show O.kle (kk key (arrOf st2) (lo + x)) (kk key (arrOf st2) (lo + x - 1)) from hb2) hb
      refine wpS_pure ⟨q + 1,rfl,by omega,sa2,fun i j k1 k2 k3 => ?_,by omega,fun k k1 k2 => ?_⟩
      ·by_cases hj:j=lo + x
       ·by_cases hi:i=j
        ·rw [hi]; exact Ck _
        ·rw [hj,eq]; exact dn2 i (lo + x - 1) k1 (by omega) (by omega)
       ·exact dn2 i j k1 k2 (by omega)
      ·rw [show lo + (x + 1) - 1=lo + x by omega,eq]
       by_cases hk:k=lo + x
       ·rw [hk,eq]
       ·exact he k (by omega) (by omega)
   case post =>
    rintro c st2 ⟨x,q,rfl,x1,xm,sa2,dn2,hq,he⟩
    dsimp only
    have sz:=sa2.size
    by_cases q0:q > 0
    case' pos =>
     rw [if_pos q0,reverseSlice'_eq]
     refine wpS_bind (wpS_modify ?_)
     have ke:=fk (key:=key) (xs:=arrOf st2) (i:=lo + x - (q + 1)) (j:=lo + x) (by omega) he
     have sa3:=sa2.mirror (i:=lo + x - (q + 1)) (j:=lo + x) (by omega) (by omega)
     have dn3:Down key (arrOf (setArr st2 (mirror (arrOf st2) (lo + x - (q + 1)) (lo + x) ((lo + x - (lo + x - (q + 1))) / 2)))) lo x:=fun i j k1 k2 k3=>by
      show O.kle (kk key (mirror (arrOf st2) (lo + x - (q + 1)) (lo + x) ((lo + x - (lo + x - (q + 1))) / 2)) j) (kk key (mirror (arrOf st2) (lo + x - (q + 1)) (lo + x) ((lo + x - (lo + x - (q + 1))) / 2)) i)
      rw [ke,ke]
      exact dn2 i j k1 k2 k3
     generalize setArr st2 (mirror (arrOf st2) (lo + x - (q + 1)) (lo + x) ((lo + x - (lo + x - (q + 1))) / 2))=st3 at sa3 dn3 ⊢
     clear ke
    case' neg =>
     rw [if_neg q0]
     obtain ⟨st3,e3⟩:∃ st3,st3=st2:=⟨_,rfl⟩
     have sa3:SA lo st st3:=by rw [e3]; exact sa2
     have dn3:Down key (arrOf st3) lo x:=by rw [e3]; exact dn2
     rw [<- e3]
     clear e3
    all_goals
     rw [reverseSlice'_eq]
     refine wpS_bind (wpS_modify ?_)
     have sz3:=sa3.size
     have sa4:=sa3.mirror (i:=lo) (j:=lo + x) (AS _) (by omega)
     have km:=mf (key:=key) (xs:=arrOf st3) (i:=lo) (j:=lo + x) (by omega)
     have up4:Up key (arrOf (setArr st3 (mirror (arrOf st3) lo (lo + x) ((lo + x - lo) / 2)))) lo x:=fun i j k1 k2 k3=>by
      show O.kle (kk key (mirror (arrOf st3) lo (lo + x) ((lo + x - lo) / 2)) i) (kk key (mirror (arrOf st3) lo (lo + x) ((lo + x - lo) / 2)) j)
      rw [km,km,if_pos ⟨by omega,by omega⟩,if_pos ⟨by omega,by omega⟩]
      exact dn3 _ _ (by omega) (by omega) (by omega)
     generalize setArr st3 (mirror (arrOf st3) lo (lo + x) ((lo + x - lo) / 2))=st4 at sa4 up4 ⊢
     clear km
     have u4:∀ p ∈ (arrOf st4).toList,U p:=fun p hp=>hu p (sa4.mem hp)
     have sz4:=sa4.size
     refine wpS_bind (wpS_mono (wpS_forRange (I:=fun z c st'=>st4=st'/\c=(none,z)/\z<=m/\Up key (arrOf st4) lo z)
      (Q:=fun c st'=>st4=st'/\∃ z,c=(none,z)/\1<=z/\z<=m/\Up key (arrOf st4) lo z) ?step ?fin ⟨rfl,rfl,xm,up4⟩) ?post)
     case fin =>
      rintro c st' ⟨rfl,rfl,zm,up⟩
      exact ⟨rfl,_,rfl,by omega,zm,up⟩
     case post =>
      rintro c st' ⟨rfl,z,rfl,z1,zm,up⟩
      exact wpS_pure (h z st4 z1 zm sa4 up)
     case step =>
      rintro z c st' h1 h2 ⟨rfl,rfl,zm,up⟩
      dsimp only
      refine wpS_bind (gr C (sa4.k.trans hκ) u4 (by omega) (by omega) ?_)
      dsimp only
      cases hb:O.blt (kk key (arrOf st4) (lo + z)) (kk key (arrOf st4) (lo + z - 1)) with
      | true =>
       rw [if_pos rfl]
       exact wpS_pure ⟨rfl,z,rfl,by omega,zm,up⟩
      | false =>
       rw [if_neg (by simp)]
       refine wpS_pure ⟨rfl,rfl,by omega,fun i j k1 k2 k3 => ?_⟩
       by_cases hj:j=lo + z
       ·by_cases hi:i=j
        ·rw [hi]; exact Ck _
        ·rw [hj]; exact Bx (up i (lo + z - 1) k1 (by omega) (by omega)) hb
       ·exact up i j k1 k2 (by omega)
theorem mh {xs:Array Keyed} {src d:Nat} (hs:src < xs.size) (hd:d<=src) (k:Nat) :
  kk key (bubble xs src d) k=if k=src - d then kk key xs src else if src - d < k/\k<=src then kk key xs (k - 1) else kk key xs k:=by
 have e:=getElem?_bubble hs d hd k
 by_cases h1:k=src - d
 ·rw [if_pos h1] at e ⊢; exact ic e
 ·rw [if_neg h1] at e ⊢
  by_cases h2:src - d < k/\k<=src
  ·rw [if_pos h2] at e ⊢; exact ic e
  ·rw [if_neg h2] at e ⊢; exact ic e
theorem SA.bubble {lo:Nat} {st st':SortSt} (h:SA lo st st') {src d:Nat} (hs:src < (arrOf st').size) (hd:lo + d<=src):SA lo st (setArr st' (bubble (arrOf st') src d)) :=
 ⟨(bubble_perm _ _ _).trans h.perm,fun k hk=>by
  show (PyProof.Rows.bubble (arrOf st') src d)[k]? = _
  rw [getElem?_bubble hs d (by omega),if_neg (by omega),if_neg (by omega)]
  exact h.pre k hk,h.k,h.p,h.f⟩
theorem vb (C:Cmp prog w A s O key U κ) {st:SortSt} {lo n ok:Nat} {Q:Bool->SortSt->Prop} (hκ : kindOf st = κ) (hu:∀ p ∈ (arrOf st).toList,U p) (hn:lo + n<=(arrOf st).size) (hok:ok<=n) (up:Up key (arrOf st) lo ok)
  (h:∀ st',SA lo st st'->Up key (arrOf st') lo n->Q true st'):wpS (model prog w) A E s (uU lo n ok) Q st:=by
 rw [va]
 dsimp only
 refine wpS_bind (wpS_mono (wpS_forRange (I:=fun x c st'=>c=(none,())/\SA lo st st'/\Up key (arrOf st') lo (min x n)) (Q:=fun c st'=>c=(none,())/\SA lo st st'/\Up key (arrOf st') lo n) ?step ?fin ⟨rfl,SA.refl _ _,fun i j k1 k2 k3 => ?_⟩) ?post)
 case post =>
  rintro c st' ⟨rfl,sa,up⟩
  exact wpS_pure (h st' sa up)
 case fin =>
  rintro c st' ⟨rfl,sa,up⟩
  refine ⟨rfl,sa,?_⟩
  rw [show min (max (max ok 1) n) n=n by omega] at up
  exact up
 case step =>
  rintro k c st1 h1 h2 ⟨rfl,sa1,up1⟩
  rw [show min k n=k by omega] at up1
  have sz:=sa1.size
  have u1:∀ p ∈ (arrOf st1).toList,U p:=fun p hp=>hu p (sa1.mem hp)
  refine wpS_bind (wpS_mono (wpS_forRange (I:=fun x c st'=>st1=st'/\∃ l r,c=(none,l,r)/\l<=r/\r<=k/\r - l<=k - x/\(∀ i,i < l->O.kle (kk key (arrOf st1) (lo + i)) (kk key (arrOf st1) (lo + k)))/\(∀ i,r<=i->i < k->O.klt (kk key (arrOf st1) (lo + k)) (kk key (arrOf st1) (lo + i))))
   (Q:=fun c st'=>st1=st'/\∃ l r,c=(none,l,r)/\l<=k/\(∀ i,i < l->O.kle (kk key (arrOf st1) (lo + i)) (kk key (arrOf st1) (lo + k)))/\(∀ i,l<=i->i < k->O.klt (kk key (arrOf st1) (lo + k)) (kk key (arrOf st1) (lo + i)))) ?istep ?ifin ⟨rfl,0,k,rfl,by omega,by omega,by omega,fun i hi=>by omega,fun i a1 a2=>by omega⟩) ?ipost)
  case ifin =>
   rintro c st' ⟨rfl,l,r,rfl,b1,b2,b3,b4,b5⟩
   have e:l=r:=by omega
   subst e
   exact ⟨rfl,l,l,rfl,b2,b4,b5⟩
  case istep =>
   rintro x c st' _ hx ⟨rfl,l,r,rfl,b1,b2,b3,b4,b5⟩
   dsimp only
   by_cases hge:l ≥ r
   ·rw [if_pos hge]
    have e:l=r:=by omega
    subst e
    exact wpS_pure ⟨rfl,l,l,rfl,b2,b4,b5⟩
   ·rw [if_neg hge]
    refine wpS_bind (gr C (sa1.k.trans hκ) u1 (by omega) (by omega) ?_)
    dsimp only
    cases hb:O.blt (kk key (arrOf st1) (lo + k)) (kk key (arrOf st1) (lo + (l + r) / 2)) with
    | true =>
     rw [if_pos rfl]
     exact wpS_pure ⟨rfl,l,(l + r) / 2,rfl,by omega,by omega,by omega,b4,fun i a1 a2=>KeyOrd.klt_of_klt_of_kle hb (up1 _ _ (by omega) (by omega) (by omega))⟩
    | false =>
     rw [if_neg (by simp)]
     exact wpS_pure ⟨rfl,(l + r) / 2 + 1,r,rfl,by omega,by omega,by omega,fun i a1=>Bx (up1 (lo + i) (lo + (l + r) / 2) (by omega) (by omega) (by omega)) hb,b5⟩
  case ipost =>
   rintro c st' ⟨rfl,l,r,rfl,b2,b4,b5⟩
   dsimp only
   rw [moveDown'_eq]
   have e:lo + k - (lo + l)=k - l:=by omega
   refine wpS_bind (wpS_modify (wpS_pure ⟨rfl,?_,?_⟩))
   ·rw [e]
    exact sa1.bubble (by omega) (by omega)
   ·rw [show min (k + 1) n=k + 1 by omega]
    intro i j k1 k2 k3
    show O.kle (kk key (bubble (arrOf st1) (lo + k) (lo + k - (lo + l))) i) (kk key (bubble (arrOf st1) (lo + k) (lo + k - (lo + l))) j)
    have lt:lo + k < (arrOf st1).size:=by omega
    rw [e,mh lt (by omega),mh lt (by omega),show lo + k - (k - l)=lo + l by omega]
    have b4':∀ z,lo<=z->z < lo + l->O.kle (kk key (arrOf st1) z) (kk key (arrOf st1) (lo + k)):=fun z z1 z2=>by
     have:=b4 (z - lo) (by omega)
     rw [show lo + (z - lo)=z by omega] at this
     exact this
    have b5':∀ z,lo + l<=z->z < lo + k->O.kle (kk key (arrOf st1) (lo + k)) (kk key (arrOf st1) z):=fun z z1 z2=>by
     have:=b5 (z - lo) (by omega) (by omega)
     rw [show lo + (z - lo)=z by omega] at this
     exact B5 this
    repeat' split
    all_goals first
     | (exfalso; omega)
     | exact Ck _
     | exact b4' _ (by omega) (by omega)
     | exact b5' _ (by omega) (by omega)
     | exact up1 _ _ (by omega) (by omega) (by omega)
 ·by_cases h1:ok=0
  ·rw [show i=j by omega]; exact Ck _
  ·exact up i j k1 k2 (by omega)
end
open PySem PyProof.Rows
def pwr:Nat->Nat->Nat->Nat->Nat:=sortPriv% PySem.Builtin.power
def mrn:Nat->Nat->Nat->Nat:=sortPriv% PySem.Builtin.minRun
theorem vd:yj=(do
    let sz:=(arrOf (← get)).size
    let mr:=mrn sz sz 0
    let mut lo:=0
    for _ in [0:sz] do
      if lo ≥ sz then break
      let some fd ← ze lo (sz - lo)
        | return
      let mut n:=fd
      if n < mr then
        rule "list.sort.binary-insertion"
        let fo:=min (sz - lo) mr
        if !(← uU lo fo n) then return
        n:=fo
      if let some (s1,n1,_):=(pendingOf (← get)).back? then
        let pw:=pwr sz (2 * s1 + n1) (2 * s1 + n1 + n1 + n) sz
        for _ in [0:sz] do
          let p:=pendingOf (← get)
          let some (_,_,old):=(if p.size > 1 then p[p.size - 2]? else none)
            | break
          if old<=pw then break
          if !(← mAt (p.size - 2)) then return
        modify fun s=>SortSt.mk' (kindOf s) (arrOf s) ((pendingOf s).modify ((pendingOf s).size - 1) fun (st,len,_)=>(st,len,pw)) (gallopOf s) (failedOf s)
      modify fun s=>SortSt.mk' (kindOf s) (arrOf s) ((pendingOf s).push (lo,n,0)) (gallopOf s) (failedOf s)
      lo:=lo + n
    for _ in [0:sz] do
      let p:=pendingOf (← get)
      if p.size<=1 then break
      let i:=p.size - 2
      let bf:=if i > 0 then p[i - 1]?.map (·.2.1) else none
      let i:=if bf.any (· < (p[i + 1]?.elim 0 (·.2.1))) then i - 1 else i
      if !(← mAt i) then return):=rfl
def Mt:Nat->List (List Keyed)->List (Nat × Nat × Nat)->Prop
 | _,[],[]=>True
 | off,r :: rs,p :: ps=>p.1=off/\p.2.1=r.length/\Mt (off + r.length) rs ps
 | _,_,_=>False
theorem Mt.length:∀ {off:Nat} {rs:List (List Keyed)} {ps:List (Nat × Nat × Nat)},Mt off rs ps->ps.length=rs.length
 | _,[],[],_=>rfl
 | _,_ :: _,_ :: _,h=>by rw [Bn,Bn,Mt.length h.2.2]
theorem Mt.append:∀ {off:Nat} {rs ts:List (List Keyed)} {ps us:List (Nat × Nat × Nat)},Mt off rs ps->Mt (off + rs.flatten.length) ts us->Mt off (rs ++ ts) (ps ++ us)
 | _,[],_,[],_,_,h=>by simpa using h
 | off,r :: rs,ts,p :: ps,us,h,h'=>by
  refine ⟨h.1,h.2.1,Mt.append h.2.2 ?_⟩
  rw [Cu,AQ, <- Ha] at h'
  exact h'
theorem Mt.split:∀ {off:Nat} {rs:List (List Keyed)} {ps:List (Nat × Nat × Nat)} (i:Nat),Mt off rs ps->i + 1 < ps.length →
  ∃ R1 X Y R2 L1 w1 w2 L2,rs=R1 ++ X :: Y :: R2/\ps=L1 ++ (off + R1.flatten.length,X.length,w1) :: (off + R1.flatten.length + X.length,Y.length,w2) :: L2/\L1.length=i/\Mt off R1 L1/\Mt (off + R1.flatten.length + X.length + Y.length) R2 L2
 | off,r :: r2 :: rs,p :: p2 :: ps,0,h,_=>by
  obtain ⟨a,b,w1⟩:=p
  obtain ⟨c,d,w2⟩:=p2
  obtain ⟨h1,h2,h3,h4,h5⟩:=h
  dsimp only at h1 h2 h3 h4
  subst h1 h2 h3 h4
  exact ⟨[],r,r2,rs,[],w1,w2,ps,rfl,rfl,rfl,trivial,h5⟩
 | off,r :: rs,p :: ps,i + 1,h,hl=>by
  rw [Bn] at hl
  obtain ⟨R1,X,Y,R2,L1,w1,w2,L2,e1,e2,e3,m1,m2⟩:=Mt.split i h.2.2 (by omega)
  have ea:off + (r :: R1).flatten.length=off + r.length + R1.flatten.length:=by rw [Cu,AQ]; omega
  refine ⟨r :: R1,X,Y,R2,p :: L1,w1,w2,L2,by rw [e1]; rfl,?_,by rw [Bn,e3],⟨h.1,h.2.1,m1⟩,?_⟩
  ·rw [ea,e2]; rfl
  ·rw [ea]; exact m2
 | off,[],[],i,_,hl=>by simp at hl
 | off,[_],[_],0,_,hl=>by simp at hl
theorem Mt.modify (f:Nat × Nat × Nat->Nat × Nat × Nat) (hf:∀ p,(f p).1=p.1/\(f p).2.1=p.2.1):∀ {off:Nat} {rs:List (List Keyed)} {ps:List (Nat × Nat × Nat)} (i:Nat),Mt off rs ps->Mt off rs (ps.modify i f)
 | _,[],[],i,_=>by cases i <;> exact trivial
 | off,r :: rs,p :: ps,0,h=>⟨(hf p).1.trans h.1,(hf p).2.trans h.2.1,h.2.2⟩
 | off,r :: rs,p :: ps,i + 1,h=>⟨h.1,h.2.1,Mt.modify f hf i h.2.2⟩
theorem tI {α : Type} (l:List α) (a b c : α) (r:List α):((l ++ a :: b :: r).set l.length c).eraseIdx (l.length + 1)=l ++ c :: r:=by
 induction l with
 | nil=>rfl
 | cons x l ih=>simp only [Gz,Bn,List.set_cons_succ,D5,ih]
section
variable {O:KeyOrd} (key:Keyed->O.α) (U:Keyed->Prop) (κ : SortKind)
structure Rn (a0:List Keyed) (lo:Nat) (st:SortSt):Prop where
 ex:∃ runs rest,(arrOf st).toList=runs.flatten ++ rest/\runs.flatten.length=lo/\(∀ r ∈ runs,r.Pairwise (Le key)/\0 < r.length)/\Mt 0 runs (pendingOf st).toList
 perm:(arrOf st).toList.Perm a0
 k:kindOf st = κ
 f:failedOf st=none
end
section
variable {prog:Program} {w:World} {A:Around} {E:Value->Shared->Prop} {s:Shared} {O:KeyOrd} {key:Keyed->O.α} {U:Keyed->Prop} {κ : SortKind}
theorem oM (C:Cmp prog w A s O key U κ) {a0:List Keyed} {lo i:Nat} {st:SortSt} {Q:Bool->SortSt->Prop} (hu:∀ p ∈ a0,U p) (R:Rn key κ a0 lo st) (hi:i + 1 < (pendingOf st).size)
  (h:∀ st',Rn key κ a0 lo st'->(pendingOf st').size + 1=(pendingOf st).size->(arrOf st').toList.drop lo=(arrOf st).toList.drop lo->Q true st'):wpS (model prog w) A E s (mAt i) Q st:=by
 obtain ⟨runs,rest,ea,el,er,em⟩:=R.ex
 obtain ⟨R1,X,Y,R2,L1,w1,w2,L2,e1,e2,e3,m1,m2⟩:=Mt.split i em (by rw [AW]; exact hi)
 subst e1
 rw [De] at e2 m2
 have hx:=er X (by simp)
 have hy:=er Y (by simp)
 have ga:(pendingOf st)[i]? = some (R1.flatten.length,X.length,w1):=by
  rw [<- A3,e2, <- e3,show L1.length=L1.length + 0 by omega,qB]; rfl
 have gb:(pendingOf st)[i + 1]? = some (R1.flatten.length + X.length,Y.length,w2):=by
  rw [<- A3,e2, <- e3,qB]; rfl
 refine zq C (P:=R1.flatten) (X:=X) (Y:=Y) (S:=R2.flatten ++ rest) R.k R.f (by rw [ea]; simp) (fun p hp=>hu p (R.perm.mem_iff.mp hp)) ga gb hx.2 hy.2 hx.1 hy.1 fun st' M pm sm ar pd kd fl => ?_
 have lm:M.length=X.length + Y.length:=by rw [pm.length_eq,AQ]
 have ep:(pendingOf st').toList=L1 ++ (R1.flatten.length,X.length + Y.length,w1) :: L2:=by
  rw [pd,Array.toList_eraseIdxIfInBounds,EH,e2, <- e3]
  exact tI _ _ _ _ _
 refine h st' ⟨⟨R1 ++ M :: R2,rest,?_,?_,fun r hr => ?_,?_⟩,?_,kd,fl⟩ ?_ ?_
 ·rw [ar]; simp
 ·rw [<- el]; simp [lm]; omega
 ·rcases A2.mp hr with q | q
  ·exact er r (by simp [q])
  ·rcases A6.mp q with q | q
   ·rw [q]; exact ⟨sm,by have:=hx.2; omega⟩
   ·exact er r (by simp [q])
 ·rw [ep]
  refine Mt.append m1 ⟨by rw [De],lm.symm,?_⟩
  rw [De,lm, <- Ha]
  exact m2
 ·rw [ar]
  refine List.Perm.trans ?_ R.perm
  rw [ea,show (R1 ++ X :: Y :: R2).flatten ++ rest=R1.flatten ++ ((X ++ Y) ++ (R2.flatten ++ rest)) by simp]
  exact Cg _ (CP _ pm)
 ·rw [<- AW, <- AW,ep,e2]
  simp only [AQ,Bn]
  omega
 ·have l1:(R1 ++ M :: R2).flatten.length=lo:=by rw [<- el]; simp [lm]; omega
  have q1:(arrOf st').toList=(R1 ++ M :: R2).flatten ++ rest:=by rw [ar]; simp
  rw [q1,ea, <- l1,EX,l1, <- el,EX]
theorem Rn.sa {a0:List Keyed} {lo:Nat} {st st':SortSt} (R:Rn key κ a0 lo st) (sa:SA lo st st'):Rn key κ a0 lo st':=by
 obtain ⟨runs,rest,ea,el,er,em⟩:=R.ex
 have et:(arrOf st').toList.take lo=runs.flatten:=by
  have e1:(arrOf st').toList.take lo=(arrOf st).toList.take lo:=by
   refine Cy fun i => ?_
   rw [B7,B7]
   split
   ·rw [A3,A3]; exact sa.pre i (by assumption)
   ·rfl
  rw [e1,ea, <- el,G2]
 refine ⟨⟨runs,(arrOf st').toList.drop lo,by rw [<- et,B0],el,er,by rw [sa.p]; exact em⟩,(EI.mp sa.perm).trans R.perm,sa.k.trans R.k,sa.f.trans R.f⟩
theorem tJ {xs:Array Keyed} {lo n:Nat} (h:Up key xs lo n):((xs.toList.drop lo).take n).Pairwise (Le key):=by
 refine C2.mpr fun i j hi hj hij => ?_
 have get:∀ k (hk:k < ((xs.toList.drop lo).take n).length),key ((xs.toList.drop lo).take n)[k]=kk key xs (lo + k)/\k < n:=fun k hk=>by
  have hk':=hk
  rw [BL] at hk'
  refine ⟨?_,by omega⟩
  have e:((xs.toList.drop lo).take n)[k]? = xs[lo + k]? := by
   rw [B7,if_pos (by omega),Dr,A3]
  rw [AO hk] at e
  unfold kk
  rw [<- e]; rfl
 obtain ⟨e1,l1⟩:=get i hi
 obtain ⟨e2,l2⟩:=get j hj
 show O.kle (key _) (key _)
 rw [e1,e2]
 exact h _ _ (by omega) (by omega) (by omega)
theorem Rn.push {a0:List Keyed} {lo n:Nat} {st:SortSt} (R:Rn key κ a0 lo st) (hn:0 < n) (hz:lo + n<=(arrOf st).size) (hs:(((arrOf st).toList.drop lo).take n).Pairwise (Le key)) :
  Rn key κ a0 (lo + n) (SortSt.mk' (kindOf st) (arrOf st) ((pendingOf st).push (lo,n,0)) (gallopOf st) (failedOf st)):=by
 obtain ⟨runs,rest,ea,el,er,em⟩:=R.ex
 have ed:(arrOf st).toList.drop lo=rest:=by rw [ea, <- el,EX]
 rw [ed] at hs
 have lr:n<=rest.length:=by
  have:=congrArg List.length ea
  rw [AW,AQ,el] at this
  omega
 have lt:(rest.take n).length=n:=by rw [BL]; omega
 refine ⟨⟨runs ++ [rest.take n],rest.drop n,?_,?_,fun r hr => ?_,?_⟩,R.perm,R.k,R.f⟩
 ·show (arrOf st).toList=_
  rw [ea]; simp
 ·simp [lt,el]
 ·rcases A2.mp hr with q | q
  ·exact er r q
  ·have e:r=rest.take n:=by simpa using q
   rw [e]; exact ⟨hs,by omega⟩
 ·show Mt 0 _ ((pendingOf st).push (lo,n,0)).toList
  rw [Cv]
  exact Mt.append em ⟨by show lo=_; omega,lt.symm,trivial⟩
theorem Rn.mod {a0:List Keyed} {lo:Nat} {st:SortSt} (R:Rn key κ a0 lo st) (i:Nat) (f:Nat × Nat × Nat->Nat × Nat × Nat) (hf:∀ p,(f p).1=p.1/\(f p).2.1=p.2.1):Rn key κ a0 lo (SortSt.mk' (kindOf st) (arrOf st) ((pendingOf st).modify i f) (gallopOf st) (failedOf st)):=by
 obtain ⟨runs,rest,ea,el,er,em⟩:=R.ex
 refine ⟨⟨runs,rest,ea,el,er,?_⟩,R.perm,R.k,R.f⟩
 show Mt 0 runs ((pendingOf st).modify i f).toList
 rw [Array.toList_modify]
 exact Mt.modify f hf i em
theorem zr {c:Prop} [Decidable c] {n:Nat} (h:1 < n):(if c then n - 2 - 1 else n - 2) + 1 < n:=by split <;> omega
theorem mj:∀ {runs:List (List Keyed)},(∀ r ∈ runs,0 < r.length)->runs.length<=runs.flatten.length
 | [],_=>AS _
 | r :: rs,h=>by
  have h1:=h r Bg
  have h2:=mj fun q hq=>h q (Bh _ hq)
  rw [Cu,AQ,Bn]
  omega
theorem ve (C:Cmp prog w A s O key U κ) {a0:List Keyed} {st:SortSt} {Q:Unit->SortSt->Prop} (hu:∀ p ∈ a0,U p) (ha:(arrOf st).toList=a0) (hp:pendingOf st = #[]) (hk:kindOf st = κ) (hf:failedOf st=none) (h1:1<=a0.length)
  (h:∀ st',(arrOf st').toList.Perm a0->(arrOf st').toList.Pairwise (Le key)->failedOf st'=none->Q () st'):wpS (model prog w) A E s yj Q st:=by
 rw [vd]
 refine wpS_bind (wpS_get ?_)
 dsimp only
 have sz0:(arrOf st).size=a0.length:=by rw [<- AW,ha]
 have szR:∀ {lo:Nat} {st':SortSt},Rn key κ a0 lo st'->(arrOf st').size=(arrOf st).size:=fun R=>by rw [<- AW,R.perm.length_eq,sz0]
 have uR:∀ {lo:Nat} {st':SortSt},Rn key κ a0 lo st'->∀ p ∈ (arrOf st').toList,U p:=fun R p hp=>hu p (R.perm.mem_iff.mp hp)
 have R0:Rn key κ a0 0 st:=⟨⟨[],a0,by rw [ha]; rfl,rfl,fun r hr=>(by cases hr),by rw [hp]; exact trivial⟩,by rw [ha],hk,hf⟩
 refine wpS_bind (wpS_mono (wpS_forRange (I:=fun x c st'=>∃ lo,c=(none,lo)/\x<=lo/\lo<=(arrOf st).size/\Rn key κ a0 lo st') (Q:=fun c st'=>c=(none,(arrOf st).size)/\Rn key κ a0 (arrOf st).size st') ?step ?fin ⟨0,rfl,AS _,Br _,R0⟩) ?post)
 case fin =>
  rintro c st' ⟨lo,rfl,l1,l2,R⟩
  obtain rfl:lo=(arrOf st).size:=by omega
  exact ⟨rfl,R⟩
 case post =>
  rintro c st1 ⟨rfl,R⟩
  dsimp only
  have p0:(pendingOf st1).size<=(arrOf st).size:=by
   obtain ⟨runs,rest,ea,el,er,em⟩:=R.ex
   have q:=em.length
   rw [AW] at q
   have:=mj fun r hr=>(er r hr).2
   omega
  refine wpS_bind (wpS_mono (wpS_forRange (I:=fun x c st'=>c=(none,())/\Rn key κ a0 (arrOf st).size st'/\((pendingOf st').size<=1\/(pendingOf st').size + x<=(arrOf st).size)) (Q:=fun c st'=>c=(none,())/\Rn key κ a0 (arrOf st).size st'/\(pendingOf st').size<=1) ?stepB ?finB ⟨rfl,R,.inr (by omega)⟩) ?postB)
  case finB =>
   rintro c st' ⟨rfl,R,q⟩
   exact ⟨rfl,R,by omega⟩
  case stepB =>
   rintro x c st' _ hx ⟨rfl,R,q⟩
   refine wpS_bind (wpS_get ?_)
   by_cases c1:(pendingOf st').size<=1
   ·rw [if_pos c1]
    exact wpS_pure ⟨rfl,R,c1⟩
   rw [if_neg c1]
   refine wpS_bind (oM C hu R (zr (by omega)) fun st2 R2 s2 _ => ?_)
   simp only [Ca,A8,if_false]
   exact wpS_pure ⟨rfl,R2,by omega⟩
  case postB =>
   rintro c st' ⟨rfl,R,q⟩
   obtain ⟨runs,rest,ea,el,er,em⟩:=R.ex
   have lm:=em.length
   rw [AW] at lm
   have lr:=congrArg List.length ea
   rw [AW,szR R,AQ,el] at lr
   have er0:rest=[]:=Dh.mp (by omega)
   subst er0
   rw [BM] at ea
   match runs,er,lm,el,ea with
   | [],_,_,el,_=>simp at el; omega
   | [r],er,_,_,ea =>
    have e:(arrOf st').toList=r:=by rw [ea]; simp
    exact wpS_pure (h st' R.perm (by rw [e]; exact (er r (by simp)).1) R.f)
   | _ :: _ :: _,_,lm,_,_=>simp at lm; omega
 case step =>
  rintro x c st1 _ hx ⟨lo,rfl,l1,l2,R⟩
  dsimp only
  by_cases cl:lo ≥ (arrOf st).size
  ·rw [if_pos cl]
   obtain rfl:lo=(arrOf st).size:=by omega
   exact wpS_pure ⟨rfl,R⟩
  rw [if_neg cl]
  have s1:=szR R
  refine wpS_bind (xr C R.k (uR R) (by omega) (by omega) fun n st2 n1 n2 sa2 up2 => ?_)
  dsimp only
  have R2:=R.sa sa2
  have s2:=szR R2
  by_cases cm:n < mrn (arrOf st).size (arrOf st).size 0
  case' pos =>
   rw [if_pos cm]
   refine wpS_bind (wpS_lift (wpAny_rule ⟨rfl,?_⟩))
   obtain ⟨fo,e⟩:∃ fo,fo=min ((arrOf st).size - lo) (mrn (arrOf st).size (arrOf st).size 0):=⟨_,rfl⟩
   rw [<- e]
   refine wpS_bind (vb C R2.k (uR R2) (by omega) (by omega) up2 fun st3 sa3 up3 => ?_)
   simp only [Ca,A8,if_false]
   have R3:=R2.sa sa3
   have f0:0 < fo:=by omega
   have f1:lo + fo<=(arrOf st).size:=by omega
  case' neg =>
   rw [if_neg cm]
   obtain ⟨fo,e⟩:∃ fo,fo=n:=⟨_,rfl⟩
   subst e
   obtain ⟨st3,e3⟩:∃ st3,st3=st2:=⟨_,rfl⟩
   subst e3
   have R3:=R2
   have up3:=up2
   have f0:0 < fo:=n1
   have f1:lo + fo<=(arrOf st).size:=by omega
  all_goals
   have srt:=tJ up3
   have s3:=szR R3
   refine wpS_bind (wpS_get ?_)
   cases hbk:(pendingOf st3).back? with
   | none =>
    dsimp only
    exact wpS_bind (wpS_modify (wpS_pure ⟨lo + fo,rfl,by omega,f1,R3.push f0 (by omega) srt⟩))
   | some t =>
    obtain ⟨t1,t2,t3⟩:=t
    dsimp only
    refine wpS_bind (wpS_mono (wpS_forRange (I:=fun _ c st'=>c=(none,())/\Rn key κ a0 lo st'/\(arrOf st').toList.drop lo=(arrOf st3).toList.drop lo) (Q:=fun c st'=>c=(none,())/\Rn key κ a0 lo st'/\(arrOf st').toList.drop lo=(arrOf st3).toList.drop lo) ?stepC ?finC ⟨rfl,R3,rfl⟩) ?postC)
    case finC=>exact fun c st' q=>q
    case stepC =>
     rintro z c st4 _ _ ⟨rfl,R4,d4⟩
     refine wpS_bind (wpS_get ?_)
     by_cases p1:(pendingOf st4).size > 1
     ·rw [if_pos p1]
      have lt:(pendingOf st4).size - 2 < (pendingOf st4).size:=by omega
      have e:(pendingOf st4)[(pendingOf st4).size - 2]? = some (pendingOf st4)[(pendingOf st4).size - 2]:=by simp [lt]
      rw [e]
      dsimp only
      split
      ·exact wpS_pure ⟨rfl,R4,d4⟩
      ·refine wpS_bind (oM C hu R4 (by omega) fun st5 R5 _ d5 => ?_)
       simp only [Ca,A8,if_false]
       exact wpS_pure ⟨rfl,R5,d5.trans d4⟩
     ·rw [if_neg p1]
      exact wpS_pure ⟨rfl,R4,d4⟩
    case postC =>
     rintro c st4 ⟨rfl,R4,d4⟩
     dsimp only
     have s4:=szR R4
     refine wpS_bind (wpS_modify (wpS_bind (wpS_modify (wpS_pure ⟨lo + fo,rfl,by omega,f1,?_⟩))))
     refine Rn.push ?_ f0 ?_ ?_
     ·refine Rn.mod R4 _ _ ?_
      exact fun p=>⟨rfl,rfl⟩
     ·show lo + fo<=(arrOf st4).size
      omega
     ·show (((arrOf st4).toList.drop lo).take fo).Pairwise (Le key)
      rw [d4]
      exact srt
end
open PySem PyProof.Rows
structure jD (prog:Program) (w:World) (s:Shared) (vs:List Value) (O:KeyOrd) (key:Value->O.α):Prop where
 ok:2<=vs.length->∀ (A:Around) (h6:Heap),(∀ b o,s.heap.get? b=some o->h6.get? b=some o)->∃ κ,(∀ (Q:SortKind->Shared->Prop) (E:Value->Shared->Prop),Q κ { s with heap:=h6 }->wpAny (model prog w) A (keyKind' vs.toArray) Q E { s with heap:=h6 }) ∧
  Cmp prog w A { s with heap:=h6 } O (fun p=>key p.1) (fun p=>p.1=p.2/\p.1 ∈ vs) κ
section
variable {prog:Program} {w:World} {A:Around} {E:Value->Shared->Prop} {s:Shared} {O:KeyOrd} {key:Value->O.α}
theorem zs:∀ vs:List Value,(vs.zip vs).map (·.2)=vs
 | []=>rfl
 | v :: vs=>by rw [D3,Bj,zs vs]
theorem oN {l:List Keyed} {vs:List Value} (h:l.Perm (vs.zip vs)):(l.map (·.2)).Perm vs/\∀ p ∈ l,p.1=p.2/\p.1 ∈ vs:=by
 have e:=zs vs
 refine ⟨by have:=h.map (·.2); rw [e] at this; exact this,fun p hp => ?_⟩
 have m:=h.mem_iff.mp hp
 obtain ⟨i,hi⟩:=Bt.mp m
 rw [EW] at hi
 have e1:=hi.1.symm.trans hi.2
 exact ⟨Bb e1,AY hi.1⟩
theorem gM {a:Addr} {vs:List Value} {n:Nat} {P:Fin->Shared->Prop} (ho:s.heap.get? a=some (seqObj "list" vs.toArray n)) (hz:vs.length<=sizeLine)
    (hc:2<=vs.length->∀ h6,(∀ b o,b ≠ a->s.heap.get? b=some o->h6.get? b=some o)->∃ κ,(∀ (Q:SortKind->Shared->Prop) (E:Value->Shared->Prop),Q κ { s with heap:=h6 }->wpAny (model prog w) A (keyKind' vs.toArray) Q E { s with heap:=h6 }) ∧
      Cmp prog w A { s with heap:=h6 } O (fun p=>key p.1) (fun p=>p.1=p.2/\p.1 ∈ vs) κ)
    (h:∀ out:List Value,out.Perm vs->out.Pairwise (fun x y=>O.kle (key x) (key y))->P (.done (.ret .none)) { s with heap:=sortedHeap s.heap a vs out.toArray }):wpAny (model prog w) A (Builtin.«list.sort» ⟨[.ref a],[]⟩) P E s:=by
  rw [list_sort_plain]
  have ha:a < s.heap.objs.size:=A1 ho
  refine wpAny_bind (listItems_at ho rfl ?_)
  refine wpAny_bind (listUpdate_at ho rfl ?_ (by rw [AR]; exact hz) (Br _))
  obtain ⟨e1,ho1⟩:∃ e1,(s.heap.update a (Obj.mapSeq fun _ => #[])).get? a=some (seqObj "list" #[] e1):=⟨_,get?_update_seq ho (fun _ => #[])⟩
  refine wpAny_bind (seqEpoch_at ho1 rfl (wpAny_bind (wpAny_newTuple ?_ (by exact hz))))
  refine wpAny_bind (wpAny_newList ?_ (Br _))
  refine wpAny_holding ?_
  generalize hH:((s.heap.update a (Obj.mapSeq fun _ => #[])).push (seqObj "tuple" vs.toArray 0)).push (seqObj "list" #[] 0)=h6
  have kp:∀ b o,b ≠ a->s.heap.get? b=some o->h6.get? b=some o:=fun b o nb e=>by
    rw [<- hH]
    refine AN _ (AN _ ?_)
    rw [FO _ _ _ _ nb]
    exact e
  have ho6:h6.get? a=some (seqObj "list" #[] e1):=by
    rw [<- hH]
    exact AN _ (AN _ ho1)
  have eH:∀ out:List Value,sortedHeap s.heap a vs out.toArray=h6.update a (Obj.mapSeq fun _=>out.toArray):=fun out=>by rw [<- hH]; rfl
  have go:∀ st':SortSt,(arrOf st').toList.Perm (vs.zip vs)->(arrOf st').toList.Pairwise (fun p q=>O.kle (key p.1) (key q.1))->failedOf st'=none →
      wpAny (model prog w) A (do
        let sorted:=(arrOf st').map (·.2)
        let touched:=(← seqEpoch a) != e1
        Builtin.List.listUpdate (.ref a) fun _=>sorted
        if let some e:=failedOf st' then rule "list.sort.comparison-raised"; throw e
        if touched then rule "list.sort.modified"; raiseError "ValueError" "list modified during sort"
        ret .none) P E { s with heap:=h6 }:=by
    intro st' pm ps hf
    obtain ⟨z1,z2⟩:=oN pm
    have em:(arrOf st').map (·.2)=((arrOf st').toList.map (·.2)).toArray:=by
      apply GA.mp
      rw [Eu]
    dsimp only
    refine wpAny_bind (seqEpoch_at ho6 rfl ?_)
    refine wpAny_bind (listUpdate_at ho6 rfl ?_ (Br _) (by rw [BD, <- AW,pm.length_eq,GN,EO]; omega))
    rw [hf]
    simp only [bne_self_eq_false,A8,if_false]
    refine wpAny_pure ?_
    rw [em, <- eH]
    refine h _ z1 (BQ.mpr (ps.imp_of_mem fun {p q} hp hq le => ?_))
    rw [<- (z2 p hp).1, <- (z2 q hq).1]
    exact le
  by_cases h2:vs.toArray.size < 2
  · rw [if_pos h2,if_pos h2]
    refine wpAny_bind (wpAny_pure ?_)
    dsimp only
    rw [StateT.run_pure]
    refine wpAny_bind (wpAny_pure ?_)
    refine go (SortSt.mk' general' (vs.toArray.zip vs.toArray) #[] 7 none) (by show (vs.toArray.zip vs.toArray).toList.Perm _; simp) ?_ rfl
    rw [AR] at h2
    have et:(vs.toArray.zip vs.toArray).toList=vs.zip vs:=by simp
    show (vs.toArray.zip vs.toArray).toList.Pairwise (fun (p q:Keyed)=>O.kle (key p.1) (key q.1))
    rw [et]
    have short:∀ us:List Value,us.length < 2->(us.zip us).Pairwise (fun (p q:Keyed)=>O.kle (key p.1) (key q.1)):=fun us hu=>by
      match us,hu with
      | [],_=>exact List.Pairwise.nil
      | [v],_=>exact CK _ _
      | _ :: _ :: _,hu=>simp only [Bn] at hu; omega
    exact short vs h2
  · rw [if_neg h2,if_neg h2]
    rw [AR] at h2
    obtain ⟨κ,k1,C⟩:=hc (by omega) h6 kp
    refine wpAny_bind (k1 _ _ ?_)
    have et:(vs.toArray.zip vs.toArray).toList=vs.zip vs:=by simp
    refine wpAny_bind (wpAny_mono (ve C (E:=E) (a0:=vs.zip vs) (st:=SortSt.mk' κ (vs.toArray.zip vs.toArray) #[] 7 none)
      (Q:=fun _ st'=>(arrOf st').toList.Perm (vs.zip vs)/\(arrOf st').toList.Pairwise (Le fun (p:Keyed)=>key p.1)/\failedOf st'=none)
      (oN (DH _)).2 et rfl rfl rfl (by rw [GN,EO]; omega) fun st' a1 a2 a3=>⟨a1,a2,a3⟩) ?_ fun _ _ e=>e)
    rintro ⟨⟨⟩,st'⟩ s' ⟨rfl,hp,hs,hf⟩
    exact go st' hp hs hf
def oO (prog:Program) (w:World) (s:Shared) (v:Value) (vs:List Value):Prop :=
 ∀ (A:Around) (E:Value->Shared->Prop) (R:List Value->Shared->Prop),(∀ h1,(∀ b o,s.heap.get? b=some o->h1.get? b=some o)->s.heap.objs.size<=h1.objs.size->R vs { s with heap:=h1 })->wpAny (model prog w) A (collect v) R E s
theorem j7 {v:Value} {vs:List Value} {Q:Value->Shared->Prop} (hv:oO prog w s v vs) (hz:vs.length<=sizeLine) (C:jD prog w s vs O key)
  (h:∀ (h':Heap) (p:Addr) (out:List Value) (n:Nat),(∀ b o,s.heap.get? b=some o->h'.get? b=some o)->s.heap.objs.size<=p->h'.get? p=some (seqObj "list" out.toArray n)->out.Perm vs->out.Pairwise (fun x y=>O.kle (key x) (key y))->Q (.ref p) { s with heap:=h' }) :
  wpAny (model prog w) A (call (.builtin "sorted") [v]) Q E s:=by
 refine EY kind_sorted plain_sorted entry_sorted (args_sorted1 _) ?_
 unfold Builtin.«sorted»
 refine wpAny_bind (m:=checkCount "sorted" 1 1 _) (wpAny_pure ?_)
 refine wpAny_bind (hv _ _ _ fun h1 k1 z1=>wpAny_bind (wpAny_newList ?_ hz))
 have hoL:(h1.push (seqObj "list" vs.toArray 0)).get? h1.objs.size=some (seqObj "list" vs.toArray 0):=A0 _ rfl
 have kL:∀ b o,s.heap.get? b=some o->(h1.push (seqObj "list" vs.toArray 0)).get? b=some o:=fun b o e=>AN _ (k1 b o e)
 refine wpAny_bind (wpAny_holding (wpAny_call_entry slot_list_sort ⟨_,hoL,rfl⟩ entry_list_sort (gM (key:=key) (O:=O) hoL hz (fun h2 h6 k6 => ?_) fun out pm ps=>⟨_,rfl,?_⟩) (args_list_sort _)))
 ·exact C.ok h2 _ h6 fun b o e=>k6 b o (A5 (Ba (A1 e) z1)) (kL b o e)
 ·obtain ⟨n,en⟩:=sortedHeap_at (out:=out.toArray) hoL
  refine wpAny_pure ⟨_,rfl,h _ _ out n (fun b o e => ?_) z1 en pm ps⟩
  have lt:=Ba (A1 e) z1
  rw [sortedHeap_old (A5 lt) (by rw [size_push']; exact BJ lt)]
  exact kL b o e
theorem ie {l:Addr} {o:Obj} {vs:List Value} {n:Nat} (ho:s.heap.get? l=some o) (hc:o.cls = .type "list" \/ o.cls = .type "tuple") (hd:o.data = .seq vs.toArray n) (hz:vs.length<=sizeLine):oO prog w s (.ref l) vs:=by
  intro A E R h
  unfold collect
  refine wpAny_bind (wpAny_runValue (codeAny_builtin entry_proto_collect' ?_))
  show wpAny _ _ (do again (.builtin "list.__iadd__" ⟨[<- newList [],.ref l],[]⟩)) _ _ s
  refine wpAny_bind (wpAny_newList (wpAny_pure ⟨ER _ (by decide +kernel),codeAny_builtin entry_list_iadd' ?_⟩))
  show wpAny _ _ (Builtin.List.listExtendWith (.ref s.heap.objs.size) (.ref l) (.ref s.heap.objs.size)) _ _ { s with heap:=s.heap.push (seqObj "list" #[] 0) }
  unfold Builtin.List.listExtendWith
  have ho':(s.heap.push (seqObj "list" #[] 0)).get? l=some o:=AN _ ho
  have cond:∀ T,o.cls = .type T->(T = "list" \/ T = "tuple")->wpAny (model prog w) A (typeOf (.ref l)) (fun t s'=>t = .type T/\s'={ s with heap:=s.heap.push (seqObj "list" #[] 0) }) E { s with heap:=s.heap.push (seqObj "list" #[] 0) }:=fun T e _=>wpAny_typeOf (T:=T) ⟨o,ho',e⟩ ⟨rfl,rfl⟩
  obtain ⟨T,eT,hT⟩:∃ T,o.cls = .type T/\(T = "list" \/ T = "tuple"):=by
    rcases hc with hc | hc
    · exact ⟨_,hc,.inl rfl⟩
    · exact ⟨_,hc,.inr rfl⟩
  refine wpAny_bind (wpAny_typeOf (T:=T) ⟨o,ho',eT⟩ ?_)
  rw [if_pos (by rcases hT with rfl | rfl <;> simp)]
  refine wpAny_bind (listItems_at ho' hd ?_)
  refine wpAny_bind (listItems_at (xs := #[]) (n:=0) (A0 _ rfl) rfl ?_)
  rw [if_neg (by simp)]
  refine wpAny_bind (listUpdate_at (xs := #[]) (n:=0) (A0 _ rfl) rfl ?_ (Br _) (by show (#[] ++ vs.toArray).size<=sizeLine + 1; simp only [DA,AR,CB]; omega))
  refine wpAny_pure ?_
  show wpAny (model prog w) A (do
      let o ← load s.heap.objs.size
      match o.data with
      | .seq xs _=>pure xs.toList
      | _=>unsupported "internal:collect") R E { s with heap:=(s.heap.push (seqObj "list" #[] 0)).update s.heap.objs.size (Obj.mapSeq (· ++ vs.toArray)) }
  refine wpAny_bind (wpAny_load (get?_update_seq (A0 _ rfl) _) ?_)
  show wpAny _ _ (pure ((#[]:Array Value) ++ vs.toArray).toList) R E _
  rw [show ((#[]:Array Value) ++ vs.toArray).toList=vs by simp]
  refine wpAny_pure (h _ (fun b ob e => ?_) ?_)
  · rw [FO _ _ _ _ (A5 (A1 e))]
    exact AN _ e
  · rw [Heap.size_update,size_push']
    exact EC _
end
open PySem PyProof.Rows
def zt:KeyOrd where
 α := Int
 blt:=fun a b=>decide (a < b)
 irrefl:=fun a=>by simp
 trans:=fun a b c h1 h2=>by simp at *; omega
 negTrans:=fun a b c h=>by simp at *; omega
 total:=fun a b h1 h2=>by simp at *; omega
theorem lex_irrefl:∀ a,HT.lexLt a a=false
 | []=>rfl
 | x :: xs=>by rw [HT.cV,if_pos rfl]; exact lex_irrefl xs
theorem lex_trans:∀ a b c,HT.lexLt a b=true->HT.lexLt b c=true->HT.lexLt a c=true
 | [],[],_,h,_=>by cases h
 | [],_ :: _,[],_,h=>by cases h
 | [],_ :: _,_ :: _,_,_=>rfl
 | _ :: _,[],_,h,_=>by cases h
 | _ :: _,_ :: _,[],_,h=>by cases h
 | x :: xs,y :: ys,z :: zs,h1,h2=>by
  rw [HT.cV] at *
  by_cases e1:x=y
  ·subst e1
   rw [if_pos rfl] at h1
   by_cases e2:x=z
   ·rw [if_pos e2] at h2 ⊢
    exact lex_trans xs ys zs h1 h2
   ·rw [if_neg e2] at h2 ⊢
    exact h2
  ·rw [if_neg e1] at h1
   have l1:=of_decide_eq_true h1
   by_cases e2:y=z
   ·subst e2
    rw [if_neg e1]
    exact h1
   ·rw [if_neg e2] at h2
    have l2:=of_decide_eq_true h2
    rw [if_neg (by omega)]
    exact decide_eq_true (by omega)
theorem eI:∀ a b,HT.lexLt a b=false->HT.lexLt b a=false->a=b
 | [],[],_,_=>rfl
 | [],_ :: _,h,_=>by cases h
 | _ :: _,[],_,h=>by cases h
 | x :: xs,y :: ys,h1,h2=>by
  rw [HT.cV] at *
  by_cases e:x=y
  ·subst e
   rw [if_pos rfl] at h1 h2
   rw [eI xs ys h1 h2]
  ·rw [if_neg e] at h1
   rw [if_neg (BN e)] at h2
   have a1:=of_decide_eq_false h1
   have a2:=of_decide_eq_false h2
   omega
theorem xt (a b c:List Int) (h:HT.lexLt a c=true):HT.lexLt a b=true\/HT.lexLt b c=true:=by
 cases h1:HT.lexLt a b with
 | true=>exact .inl rfl
 | false =>
  right
  cases h2:HT.lexLt b a with
  | true=>exact lex_trans b a c h2 h
  | false=>rw [<- eI a b h1 h2]; exact h
def lexOrd:KeyOrd where
 α := List Int
 blt:=HT.lexLt
 irrefl:=lex_irrefl
 trans:=lex_trans
 negTrans:=xt
 total:=eI
def intOf:Value->Int
 | .int i _=>i
 | _=>0
section
variable {prog:Program} {w:World} {A:Around} {E:Value->Shared->Prop} {s:Shared}
theorem ig:∀ {vs:List Value} {ns:List Int},IntsAre vs ns->∀ v ∈ vs,∃ i t,v = .int i t
 | _,_,.nil,v,h=>by cases h
 | _,_,.cons n t r,v,h=>by
  rcases A6.mp h with e | e
  ·exact ⟨n,t,e⟩
  ·exact ig r v e
theorem nF {vs:List Value} {ns:List Int} (hI:IntsAre vs ns):jD prog w s vs zt intOf:=by
 refine ⟨fun h2 A h6 _=>⟨oneType',fun Q E q => ?_,⟨fun E st x y Q hk hx hy q => ?_⟩⟩⟩
 ·match vs,h2,hI with
  | v1 :: v2 :: rest,_,hI =>
   rw [keyKind_ints hI]
   exact wpAny_pure q
  | [],h2,_=>simp at h2
  | [_],h2,_=>simp at h2
 ·obtain ⟨i,t,e1⟩:=ig hI _ hx.2
  obtain ⟨j,u,e2⟩:=ig hI _ hy.2
  rw [lt'_eq]
  refine wpS_bind (wpS_get ?_)
  rw [hk,keyLt'_oneType,e1,e2]
  refine wpS_bind (wpS_lift (wpAny_attempt (oneLt_int ⟨rfl,?_⟩)))
  refine wpS_pure ?_
  have q':Q (some (decide (intOf x.1 < intOf y.1))) st:=q
  rw [e1,e2] at q'
  exact q'
def de (h:Heap) (v:Value):List Int:=match v with
 | .ref p=>match h.get? p with
  | some o=>match o.data with
   | .seq xs _=>xs.toList.map intOf
   | _=>[]
  | none=>[]
 | _=>[]
def dI (h:Heap) (v:Value) (ns:List Int):Prop:=∃ p o xs n,v = .ref p/\h.get? p=some o/\o.cls = .type "tuple" /\ o.data = .seq xs n/\IntsAre xs.toList ns
theorem ints_map:∀ {vs:List Value} {ns:List Int},IntsAre vs ns->vs.map intOf=ns
 | _,_,.nil=>rfl
 | _,_,.cons n t r=>by rw [Bj,ints_map r]; rfl
theorem dI.ints {h:Heap} {v:Value} {ns:List Int} (x:dI h v ns):de h v=ns:=by
 obtain ⟨p,o,xs,n,rfl,e,_,d,r⟩:=x
 unfold de
 dsimp only
 rw [e]
 dsimp only
 rw [d]
 exact ints_map r
theorem dI.keeps {h h':Heap} {v:Value} {ns:List Int} (x:dI h v ns) (k:∀ b o,h.get? b=some o->h'.get? b=some o):dI h' v ns:=by
 obtain ⟨p,o,xs,n,rfl,e,r⟩:=x
 exact ⟨p,o,xs,n,rfl,k _ _ e,r⟩
theorem oP {fin:Bool} {Q:Bool->Shared->Prop}:∀ {us ws:List Value} {ns ms:List Int} (i:Nat),IntsAre us ns->IntsAre ws ms->(fin=true ↔ (decide (ns.length < ms.length)=true))->Q (HT.lexLt ns ms) s →
  PySem.W.KatLex prog w A true fin Q (us.zip ws) i s
 | _,_,_,_,i,.nil,.nil,hf,q=>by
  refine Fy ?_
  have e:fin=false:=by cases fin with
   | false=>rfl
   | true=>have:=hf.mp rfl; simp at this
  rw [e]; exact q
 | _,_,_,_,i,.nil,.cons _ _ _,hf,q=>by
  refine Fy ?_
  have e:fin=true:=hf.mpr (by simp)
  rw [e]; exact q
 | _,_,_,_,i,.cons _ _ _,.nil,hf,q=>by
  refine Fy ?_
  have e:fin=false:=by cases fin with
   | false=>rfl
   | true=>have:=hf.mp rfl; simp at this
  rw [e]; exact q
 | _,_,_,_,i,.cons (ns:=ns) a t r,.cons (ns:=ms) c u r',hf,q=>by
  rw [D3]
  refine PySem.W.kat_cons (wpAny_eqBool_int ?_)
  rw [HT.cV] at q
  by_cases e:a=c
  ·rw [if_pos e] at q
   rw [beq_iff_eq.mpr e]
   exact PySem.W.kat_yes (oP (i + 1) r r' (by rw [hf]; simp) q)
  ·rw [if_neg e] at q
   rw [beq_eq_false_iff_ne.mpr e]
   refine PySem.W.kat_no ?_
   by_cases i0:(true && i == 0)=true
   ·rw [i0]
    exact oneLt_int q
   ·rw [DB.mpr i0,oneLt'_eq]
    simp only [A8,if_false]
    refine wpAny_bind (HT.oG _ _ a t c u prog w _ _ ?_)
    exact wpAny_truthy_bool q
theorem j8 {h:Heap}:∀ {vs:List Value},(∀ v ∈ vs,∃ ns,dI h v ns/\ns ≠ [])->∃ fs,PySem.W.KatTups h vs fs/\fs.length=vs.length/\∀ f ∈ fs,∃ i t,f = .int i t
 | [],_=>⟨[],trivial,rfl,fun f hf=>by cases hf⟩
 | v :: vs,hv=>by
  obtain ⟨fs,t,l,hf⟩:=j8 fun u hu=>hv u (Bh _ hu)
  obtain ⟨ns,⟨p,o,xs,n,rfl,e,c,d,r⟩,ne⟩:=hv v Bg
  have hx:∃ i t,xs[0]? = some (.int i t):=by
   rw [<- A3]
   generalize xs.toList=l at r
   cases r with
   | nil=>exact absurd rfl ne
   | cons i t r=>exact ⟨i,t,rfl⟩
  obtain ⟨i,t',hx⟩:=hx
  exact ⟨.int i t' :: fs,He e c d hx t,by rw [Bn,Bn,l],fun f hf'=>by
   rcases A6.mp hf' with q | q
   ·exact ⟨i,t',q⟩
   ·exact hf f q⟩
theorem ij {vs:List Value} (hv:∀ v ∈ vs,∃ ns,dI s.heap v ns/\ns ≠ []):jD prog w s vs lexOrd (de s.heap):=by
 refine ⟨fun h2 A h6 k6=>⟨tuples' true,fun Q E q => ?_,⟨fun E st x y Q hk hx hy q => ?_⟩⟩⟩
 ·obtain ⟨fs,t,l,hf⟩:=j8 (h:=h6) (vs:=vs) fun v hv'=>by
   obtain ⟨ns,i,ne⟩:=hv v hv'
   exact ⟨ns,i.keeps k6,ne⟩
  refine PySem.W.kat_kind (T := .type "int") t (by omega) (fun f hf' => ?_) rfl q
  obtain ⟨i,t',rfl⟩:=hf f hf'
  exact Hc rfl
 ·obtain ⟨ns,i1,_⟩:=hv _ hx.2
  obtain ⟨ms,i2,_⟩:=hv _ hy.2
  have q':Q (some (HT.lexLt (de s.heap x.1) (de s.heap y.1))) st:=q
  rw [i1.ints,i2.ints] at q'
  obtain ⟨p1,o1,xs1,n1,e1,g1,c1,d1,r1⟩:=i1.keeps k6
  obtain ⟨p2,o2,xs2,n2,e2,g2,c2,d2,r2⟩:=i2.keeps k6
  rw [lt'_eq]
  refine wpS_bind (wpS_get ?_)
  rw [hk,e1,e2]
  have l1:=r1.length
  have l2:=r2.length
  refine wpS_bind (wpS_lift (wpAny_attempt (PySem.W.kat_lt g1 d1 g2 d2 (oP 0 r1 r2 ?_ ⟨rfl,?_⟩))))
  ·rw [<- l1, <- l2,AW,AW]
  ·exact wpS_pure q'
end
end Srt
namespace L2
open PySem PySem.Spec PyProof.Rows
theorem j9 {α β : Type} {f : α -> β}:∀ {l:List β} {m:List α},l.Perm (m.map f)->∃ m':List α,m'.Perm m/\l=m'.map f:=by
 intro l m h
 generalize hk:m.map f=k at h
 induction h generalizing m with
 | nil =>
  have:m=[]:=List.map_eq_nil_iff.mp hk
  exact ⟨[],by rw [this],rfl⟩
 | cons x _ ih =>
  match m,hk with
  | y :: m,hk =>
   rw [Bj] at hk
   injection hk with h1 h2
   obtain ⟨m',p,e⟩:=ih h2
   exact ⟨y :: m',p.cons y,by rw [Bj, <- e,h1]⟩
  | [],hk=>cases hk
 | swap x y l =>
  match m,hk with
  | a :: b :: m,hk =>
   rw [Bj,Bj] at hk
   injection hk with h1 h2
   injection h2 with h2 h3
   exact ⟨b :: a :: m,List.Perm.swap a b m,by rw [Bj,Bj,h1,h2,h3]⟩
  | [],hk=>cases hk
  | [_],hk=>simp at hk
 | trans _ _ ih1 ih2 =>
  obtain ⟨m',p,e⟩:=ih2 hk
  obtain ⟨m'',p',e'⟩:=ih1 e.symm
  exact ⟨m'',p'.trans p,e'⟩
theorem cS:∀ {ns:List Int} {us:List Value},Vals (ns.map V.int) us->IntsAre us ns:=fun r=>intsAre_of r
theorem ik:∀ {us:List Value} {ns:List Int},IntsAre us ns->Vals (ns.map V.int) us:=fun r=>iQ r
theorem iS:∀ {us:List Value},(∀ u ∈ us,∃ i t,u=Value.int i t)->IntsAre us (us.map Srt.intOf)
 | [],_ => .nil
 | u :: us,h=>by
  obtain ⟨i,t,e⟩:=h u Bg
  subst e
  exact .cons i t (iS fun v hv=>h v (Bh _ hv))
theorem eJ:∀ {α : Type} {f : α -> Addr} {ps:List α} {us:List Value},Vals (ps.map fun x=>V.ref (f x)) us->us=ps.map fun x=>Value.ref (f x)
 | _,_,[],_,r=>by cases r; rfl
 | _,f,p :: ps,_,r=>by
  cases r with
  | cons h t=>rw [Bj, <- eJ t,show _=Value.ref (f p) from h]
theorem gs {α : Type} {f : α -> Addr}:∀ {ps:List α},Vals (ps.map fun x=>V.ref (f x)) (ps.map fun x=>Value.ref (f x))
 | [] => .nil
 | p :: ps => .cons rfl gs
section
variable {X:Cx}
theorem Inv.oQ {pins:List (Addr × Obj)} {σ:St} {H:Hp} {s:Shared} {p:Addr} {ys:List V} (I:Inv X pins σ H s) (h:SqL X.K H p ys\/SqT X.K H p ys) :
  ∃ (its:List Value) (o:Obj) (n:Nat),Vals ys its/\s.heap.get? p=some o/\(o.cls = .type "list" \/ o.cls = .type "tuple")/\o.data = .seq its.toArray n/\ys.length<=sizeLine:=by
 rcases h with h | h
 ·obtain ⟨its,r,⟨o,n,e,c,_,d⟩,z⟩:=I.list h
  exact ⟨its,o,n,r,e,.inl c,d,z⟩
 ·obtain ⟨its,r,⟨o,e,c,n,d⟩,z⟩:=I.tuple h
  exact ⟨its,o,n,r,e,.inr c,d,z⟩
theorem Inv.newList {pins:List (Addr × Obj)} {σ:St} {H:Hp} {s:Shared} {h':Heap} {p:Addr} {ys:List V} {its:List Value} {n:Nat} (I:Inv X pins σ H s) (k:∀ b o,s.heap.get? b=some o->h'.get? b=some o) (hp:s.heap.objs.size<=p)
  (e:h'.get? p=some { cls := .type "list",data := .seq its.toArray n }) (r:Vals ys its) (hz:ys.length<=sizeLine):Inv X pins σ (upd H p (.lst ys)) { s with heap:=h' } :=
 I.laid (t':=s.toks) k hp ⟨hz,its,n,r,e⟩
theorem il:bJ X (.builtin "sorted") (fun xs H Q=>∃ (p:Addr) (ns:List Int),xs=[.ref p]/\(SqL X.K H p (ns.map V.int)\/SqT X.K H p (ns.map V.int))/\∀ (l:Addr) (out:List Int),H l=none->out.Perm ns->out.Pairwise (· <= ·)->Q (.ref l) (upd H l (.lst (out.map V.int)))):=by
 intro pins s σ H xs us Q I r h
 obtain ⟨p,ns,rfl,hs,q⟩:=h
 obtain ⟨u,rfl,ru⟩:=vals1 r
 cases (show u=Value.ref p from ru)
 obtain ⟨its,o,n,rv,e,c,d,z⟩:=I.oQ hs
 have hI:=cS rv
 have lz:its.length<=sizeLine:=by rw [<- rv.length]; exact z
 refine Srt.j7 (Srt.ie e c d lz) lz (Srt.nF hI) fun h' l out m k hl el pm ps => ?_
 have hm:∀ v ∈ out,∃ i t,v=Value.int i t:=fun v hv=>Srt.ig hI v (pm.mem_iff.mp hv)
 have hO:=iS hm
 have pm':(out.map Srt.intOf).Perm ns:=by
  have:=pm.map Srt.intOf
  rw [Srt.ints_map hI] at this
  exact this
 refine ⟨.ref l,_,I.newList k hl el (ik hO) (by rw [AM,pm'.length_eq, <- AM (f:=V.int)]; exact z),rfl,q l _ (I.hok.fresh hl) pm' ?_⟩
 refine BQ.mpr (ps.imp fun {x y} le => ?_)
 have le':decide (Srt.intOf y < Srt.intOf x)=false:=le
 have:=of_decide_eq_false le'
 omega
theorem fq:bJ X (.builtin "sorted") (fun xs H Q=>∃ (p:Addr) (ts:List (Addr × List Int)),xs=[.ref p]/\(SqL X.K H p (ts.map fun t => .ref t.1)\/SqT X.K H p (ts.map fun t => .ref t.1))/\(∀ t ∈ ts,SqT X.K H t.1 (t.2.map V.int)/\t.2 ≠ []) ∧
  ∀ (l:Addr) (out:List (Addr × List Int)),H l=none->out.Perm ts->out.Pairwise (fun a b=>HT.lexLt b.2 a.2=false)->Q (.ref l) (upd H l (.lst (out.map fun t => .ref t.1)))):=by
 intro pins s σ H xs us Q I r h
 obtain ⟨p,ts,rfl,hs,ht,q⟩:=h
 obtain ⟨u,rfl,ru⟩:=vals1 r
 cases (show u=Value.ref p from ru)
 obtain ⟨its,o,n,rv,e,c,d,z⟩:=I.oQ hs
 have ei:=eJ rv
 have lz:its.length<=sizeLine:=by rw [<- rv.length]; exact z
 have tup:∀ t ∈ ts,Srt.dI s.heap (Value.ref t.1) t.2:=fun t hm=>by
  obtain ⟨jts,jr,⟨jo,je,jc,jn,jd⟩,_⟩:=I.tuple (ht t hm).1
  exact ⟨t.1,jo,_,jn,rfl,je,jc,jd,by simpa using cS jr⟩
 have hv:∀ v ∈ its,∃ ns,Srt.dI s.heap v ns/\ns ≠ []:=fun v hv=>by
  rw [ei] at hv
  obtain ⟨t,hm,rfl⟩:=Bc.mp hv
  exact ⟨t.2,tup t hm,(ht t hm).2⟩
 refine Srt.j7 (Srt.ie e c d lz) lz (Srt.ij hv) fun h' l out m k hl el pm ps => ?_
 rw [ei] at pm
 obtain ⟨out',pm',rfl⟩:=j9 pm
 refine ⟨.ref l,_,I.newList k hl el gs (by rw [AM,pm'.length_eq, <- AM (f:=fun t:Addr × List Int=>V.ref t.1)]; exact z),rfl,q l _ (I.hok.fresh hl) pm' ?_⟩
 refine (BQ.mp ps).imp_of_mem fun {a b} ha hb le => ?_
 have le':HT.lexLt (Srt.de s.heap (Value.ref b.1)) (Srt.de s.heap (Value.ref a.1))=false:=le
 rw [(tup a (pm'.mem_iff.mp ha)).ints,(tup b (pm'.mem_iff.mp hb)).ints] at le'
 exact le'
end
open PySem PySem.Spec PyProof.Rows
def Tp (H H':Hp):Prop:=∀ b xs,H b=some (.tup xs)->H' b=some (.tup xs)
theorem aB.tp {H H':Hp} (a:aB H H'):Tp H H':=fun c u h=>a c _ h
def mnI (a b:Int):Int:=if b < a then b else a
def mxI (a b:Int):Int:=if b > a then b else a
def nrm (a b:Int):List Int:=[mnI a b,mxI a b]
theorem cu (a b:Int):nrm a b=nrm b a:=by
 have h1:mnI a b=mnI b a:=by unfold mnI; split <;> split <;> omega
 have h2:mxI a b=mxI b a:=by unfold mxI; split <;> split <;> omega
 unfold nrm
 rw [h1,h2]
open PySem PySem.Spec PyProof.Rows
section
variable {X:Cx} {tg:Expr}
def iSeq (K:PySem.W.Frag) (tl:TE):TI:=fun σ H R=>tl σ H fun x H1=>∃ a,x = .ref a/\(((∃ xs,SqL K H1 a xs)/\R (Itl K a) H1)\/((∃ xs,SqT K H1 a xs)/\R (Itt K a) H1))
theorem zu {l:Expr} {tl:TE} (hl:PE X l tl):PI X tg l (iSeq X.K tl):=by
 intro pins s σ H R I h; refine thn (hl pins s σ H _ I h) fun v s1 ⟨x,H1,I1,r1,q1⟩ => ?_
 obtain ⟨a,e,q1⟩:=q1
 subst e
 cases r1
 have fp:∀ b ∈ [s1.heap.objs.size],jw X pins H1 b:=fun b hb=>by
  have e:b=s1.heap.objs.size:=by simpa using hb
  rw [e]; exact I1.uG (AS _) (I1.hok.fresh (AS _))
 rcases q1 with ⟨⟨xs,hq⟩,q⟩ | ⟨⟨xs,hq⟩,q⟩
 ·obtain ⟨its,rv,p,hz⟩:=I1.list hq; refine wpAny_pyIter_list p.isList ?_
  exact ⟨s1.heap.objs.size,_,_,_,H1,rfl,I1.kept (t':=s1.toks) (fun b o e=>AN _ e),lO a _,⟨_,A0 _ rfl,rfl,rfl⟩,fp,q⟩
 ·obtain ⟨its,rv,p,hz⟩:=I1.tuple hq; refine wpAny_pyIter_tuple (show s1.heap.IsTuple a its.toArray from p) ?_
  exact ⟨s1.heap.objs.size,_,_,_,H1,rfl,I1.kept (t':=s1.toks) (fun b o e=>AN _ e),jP a _,⟨_,A0 _ rfl,rfl,rfl⟩,fp,q⟩
end
theorem tK {K:PySem.W.Frag} {a:Addr} {xs:List V} {k:Nat} {tc:TT} {te:TE} {τ : St} {H:Hp} {Q:VK} (Pv:Nat->List V->Hp->Prop) (hp:H a=some (.lst xs)\/H a=some (.tup xs)) (h0:Pv 0 [] H) (hz:xs.length<=sizeLine)
  (hl:∀ i ys H',Pv i ys H'->H' a=H a) (hs:∀ i x ys H,xs[i]? = some x->ys.length<=i->Pv i ys H->rL k tc te τ Pv i x ys H)
  (hd:∀ ys H,ys.length<=xs.length->Pv xs.length ys H->∀ l,H l=none->Q (.ref l) (upd H l (.lst ys))) :
  ((∃ xs,SqL K H a xs)/\j1 (Itl K a) (fI k) tc te τ Q H)\/((∃ xs,SqT K H a xs)/\j1 (Itt K a) (fI k) tc te τ Q H):=by
 rcases hp with hp | hp
 ·exact .inl ⟨⟨_,SqL.of hp⟩,cq Pv h0 hz (fun i ys H' _ z=>SqL.of ((hl i ys H' z).trans hp)) hs hd⟩
 ·exact .inr ⟨⟨_,SqT.of hp⟩,iR Pv h0 hz (fun i ys H' _ z=>SqT.of ((hl i ys H' z).trans hp)) hs hd⟩
theorem oR {X:Cx} {K:PySem.W.Frag} {x y:Str} {i j k:Nat} {p p' pos:Pos} (hN:X.N.Nodup) (hi:X.N[i]? = some x) (hj:X.N[j]? = some y) (hx:Loc X.env.scope x) (hy:Loc X.env.scope y) (hc:X.calm=true:=by rfl) (h:X.K=K:=by rfl)
  (hf:X.fn x=true\/X.env.scope.names.lookup x=some .local:=by first | exact .inl rfl | exact .inr rfl) (hg:X.fn y=true\/X.env.scope.names.lookup y=some .local:=by first | exact .inl rfl | exact .inr rfl):PG X (.Tuple [.Name x p,.Name y p'] k pos) (yi K i j):=by
 subst h
 exact bo hc (aA (ak hN hi hx hf) (aA (ak hN hj hy hg) aT))
end L2
namespace STab
open PySem PySem.SetTable
def nH (xs:Array Nat):Prop:=∀ i j a b:Nat,xs[i]? = some a->xs[j]? = some b->i < j->a < b
theorem vf {xs:Array Nat} (R:nH xs) (j:Nat):∀ (fuel lo hi:Nat),lo<=hi->hi<=xs.size->hi - lo<=fuel →
  (∀ i a,i < lo->xs[i]? = some a->a < j)->(∀ i a,hi<=i->xs[i]? = some a->j<=a) →
  below.go xs j fuel lo hi<=xs.size/\(∀ i a,xs[i]? = some a->(i < below.go xs j fuel lo hi ↔ a < j)):=by
 intro fuel
 induction fuel with
 | zero =>
  intro lo hi h1 h2 h3 h4 h5
  unfold below.go
  refine ⟨by omega,fun i a e=>⟨fun q=>h4 i a q e,fun q => ?_⟩⟩
  apply Dn
  intro q2
  have:=h5 i a (by omega) e
  omega
 | succ fuel ih =>
  intro lo hi h1 h2 h3 h4 h5
  unfold below.go
  by_cases hl:lo < hi
  ·rw [if_pos hl]
   dsimp only
   have hm:(lo + hi) / 2 < xs.size:=by omega
   have em:xs[(lo + hi) / 2]? = some xs[(lo + hi) / 2]:=Be hm
   have eg:xs.getD ((lo + hi) / 2) j=xs[(lo + hi) / 2]:=by simp [Array.getD,hm]
   rw [eg]
   by_cases hc:xs[(lo + hi) / 2] < j
   ·rw [if_pos hc]
    refine ih _ _ (by omega) h2 (by omega) (fun i a q e => ?_) h5
    by_cases q2:i=(lo + hi) / 2
    ·rw [q2,em] at e; cases e; exact hc
    ·exact Nat.lt_trans (R i _ _ _ e em (by omega)) hc
   ·rw [if_neg hc]
    refine ih _ _ (by omega) (by omega) (by omega) h4 (fun i a q e => ?_)
    by_cases q2:i=(lo + hi) / 2
    ·rw [q2,em] at e; cases e; omega
    ·have:=R _ i _ _ em e (by omega)
     omega
  ·rw [if_neg hl]
   refine ⟨by omega,fun i a e=>⟨fun q=>h4 i a q e,fun q => ?_⟩⟩
   apply Dn
   intro q2
   have:=h5 i a (by omega) e
   omega
theorem dJ {xs:Array Nat} (R:nH xs) (j:Nat):below xs j<=xs.size/\∀ i a,xs[i]? = some a->(i < below xs j ↔ a < j) :=
 vf R j _ _ _ (Br _) (AS _) (by omega) (fun i a h=>by omega) fun i a h e=>by
  rw [Cq (by omega)] at e; cases e
theorem below_at {xs:Array Nat} (R:nH xs) {i j:Nat} (h:xs[i]? = some j):below xs j=i:=by
 obtain ⟨h1,h2⟩:=dJ R j
 have hi:i < xs.size:=by
  apply Dn; intro q; rw [Cq q] at h; cases h
 have a1:¬ i < below xs j:=fun q=>by have:=(h2 i j h).mp q; omega
 apply Dv (by omega)
 apply Es
 intro q
 have e:=Be (xs:=xs) (i:=below xs j) (by omega)
 have l1:=R _ _ _ _ e h q
 have:=(h2 _ _ e).mpr l1
 omega
theorem qC {xs:Array Nat} (R:nH xs) {i j:Nat} (h:xs[i]? = some j):below xs (j + 1)=i + 1:=by
 obtain ⟨h1,h2⟩:=dJ R (j + 1)
 have a1:i < below xs (j + 1):=(h2 i j h).mpr (by omega)
 apply Dv _ a1
 apply Es
 intro q
 have hk:i + 1 < xs.size:=by omega
 have e:=Be (xs:=xs) hk
 have l1:=R _ _ _ _ h e (by omega)
 have:=(h2 _ _ e).mp q
 omega
theorem qD {xs:Array Nat} (R:nH xs):below xs 0=0:=by
 obtain ⟨h1,h2⟩:=dJ R 0
 apply Dv _ (Br _)
 apply Es
 intro q
 have:=(h2 0 _ (Be (by omega))).mp q
 omega
theorem bY {α : Type} (xs:Array α) (p:Nat) (x : α):(insertAt xs p x).toList=xs.toList.take p ++ x :: xs.toList.drop p:=by
 unfold insertAt
 simp
 rw [A7 (by simp)]
theorem cx {α : Type} (xs:Array α) {p:Nat} (hp:p<=xs.size) (x : α) (i:Nat) :
  (insertAt xs p x)[i]? = if i < p then xs[i]? else if i=p then some x else xs[i - 1]? := by
 rw [<- A3,bY]
 have hl:(xs.toList.take p).length=p:=by rw [BL,AW]; omega
 by_cases h1:i < p
 ·rw [if_pos h1,Bf (by omega),B7,if_pos h1,A3]
 ·rw [if_neg h1,Bk (by omega),hl]
  by_cases h2:i=p
  ·rw [if_pos h2,h2,Gu]; rfl
  ·rw [if_neg h2]
   obtain ⟨d,hd⟩:∃ d,i - p=d + 1:=⟨i - p - 1,by omega⟩
   rw [hd,Cm,Dr,A3]
   congr 1; omega
theorem cD {α : Type} (xs:Array α) (p:Nat) (x : α):(insertAt xs p x).size=xs.size + 1:=by
 rw [<- AW,bY,AQ,Bn,BL,BS,AW]
 omega
theorem insertAt_perm {α : Type} (xs:Array α) (p:Nat) (x : α):(insertAt xs p x).toList.Perm (x :: xs.toList):=by
 rw [bY]
 exact Gy.trans (by rw [B0])
theorem fv {α β : Type} (xs:Array α) (p:Nat) (x : α) (f : α -> β):(insertAt xs p x).map f=insertAt (xs.map f) p (f x):=by
 apply GA.mp
 rw [Eu,bY,bY,Eu,A4,Bj,EA,DC]
theorem lE {xs:Array Nat} (R:nH xs) {j:Nat} (hj:∀ i:Nat,xs[i]? ≠ some j):nH (insertAt xs (below xs j) j):=by
 obtain ⟨h1,h2⟩:=dJ R j
 intro a b x y ea eb hab
 rw [cx _ h1] at ea eb
 by_cases a1:a < below xs j
 ·rw [if_pos a1] at ea
  have:=(h2 _ _ ea).mp a1
  by_cases b1:b < below xs j
  ·rw [if_pos b1] at eb; exact R _ _ _ _ ea eb hab
  ·rw [if_neg b1] at eb
   by_cases b2:b=below xs j
   ·rw [if_pos b2] at eb; cases eb; exact this
   ·rw [if_neg b2] at eb
    exact R _ _ _ _ ea eb (by omega)
 ·rw [if_neg a1] at ea
  rw [if_neg (by omega),if_neg (by omega)] at eb
  have l1:¬ y < j:=fun q=>by have:=(h2 _ _ eb).mpr q; omega
  by_cases a2:a=below xs j
  ·rw [if_pos a2] at ea; cases ea
   have:y ≠ j:=fun q=>hj _ (q ▸ eb)
   omega
  ·rw [if_neg a2] at ea
   exact R _ _ _ _ ea eb (by omega)
def occ (t:SetTable) (j:Nat):Prop:=∃ i:Nat,t.place[i]? = some j
theorem iT {t:SetTable} (R:nH t.place) {i j:Nat} (h:t.place[i]? = some j):t.slot j = .live i:=by
 unfold SetTable.slot
 dsimp only
 rw [below_at R h,h]
 simp
theorem qE {t:SetTable} (D:t.dummies = #[]) {j:Nat} (h:¬ occ t j):t.slot j = .empty:=by
 unfold SetTable.slot
 dsimp only
 have h1:(t.place[below t.place j]? == some j)=false:=by
  rw [beq_eq_false_iff_ne]; exact fun q=>h ⟨_,q⟩
 rw [h1,D]
 simp [has]
def adv (mask:Nat) (p:Probe):Probe :=
 if p.more > 0 then { p with j:=p.j + 1,more:=p.more - 1 } else
 let (i,perturb):=leap mask p.i p.perturb
 { p with j:=i,more:=runEnd mask i - i,i,perturb }
def dh (mask i perturb:Nat):Probe:={ j:=i,more:=runEnd mask i - i,i,perturb,dummy:=none }
def start (mask:Nat) (h:Int):Probe:=dh mask (bits h % (mask + 1)) (bits h)
inductive Way (oc:Nat->Prop) (mask:Nat):Nat->Probe->Probe->Prop
 | here (p:Probe):Way oc mask 0 p p
 | step {n:Nat} {p q:Probe}:oc p.j->Way oc mask n (adv mask p) q->Way oc mask (n + 1) p q
theorem Way.mono {oc oc':Nat->Prop} {mask n:Nat} {p q:Probe} (m:∀ j,oc j->oc' j) (h:Way oc mask n p q):Way oc' mask n p q:=by
 induction h with
 | here p=>exact .here p
 | step a _ ih=>exact .step (m _ a) ih
theorem Way.dummy {oc:Nat->Prop} {mask n:Nat} {p q:Probe} (h:Way oc mask n p q):q.dummy=p.dummy:=by
 induction h with
 | here p=>rfl
 | @step n p q _ _ ih =>
  rw [ih]; unfold adv; split <;> rfl
theorem zv {mask:Nat} {p:Probe} (h:p.j + p.more<=mask):(adv mask p).j + (adv mask p).more<=mask:=by
 unfold adv
 split
 ·dsimp only; omega
 ·dsimp only [leap]
  have:(p.i * 5 + 1 + p.perturb / 32) % (mask + 1) < mask + 1:=Ed _ (DT mask)
  unfold runEnd
  split <;> omega
theorem oS (mask:Nat) (h:Int):(start mask h).j + (start mask h).more<=mask:=by
 unfold start dh
 dsimp only
 have:bits h % (mask + 1) < mask + 1:=Ed _ (DT mask)
 unfold runEnd
 split <;> omega
theorem Way.le {oc:Nat->Prop} {mask n:Nat} {p q:Probe} (h:Way oc mask n p q):p.j + p.more<=mask->q.j<=mask:=by
 induction h with
 | here p=>intro; omega
 | step _ _ ih=>intro h; exact ih (zv h)
def nI (mask:Nat):Nat->Probe->Probe
 | 0,p=>p
 | n + 1,p=>nI mask n (adv mask p)
theorem oT (mask:Nat):∀ (a b:Nat) (p:Probe),nI mask (a + b) p=nI mask b (nI mask a p)
 | 0,b,p=>by rw [De]; rfl
 | a + 1,b,p=>by rw [show a + 1 + b=(a + b) + 1 by omega]; exact oT mask a b (adv mask p)
theorem tL (oc:Nat->Prop) (mask:Nat):∀ (n:Nat) (p:Probe),¬ oc (nI mask n p).j->∃ k q,k<=n/\Way oc mask k p q/\¬ oc q.j:=by
 intro n
 induction n with
 | zero=>intro p h; exact ⟨0,p,AS _,.here p,h⟩
 | succ n ih =>
  intro p h
  by_cases hp:oc p.j
  ·obtain ⟨k,q,a,b,c⟩:=ih (adv mask p) h
   exact ⟨k + 1,q,by omega,.step hp b,c⟩
  ·exact ⟨0,p,Br _,.here p,hp⟩
theorem xu (mask:Nat):∀ (m:Nat) (p:Probe),p.more=m->p.dummy=none->nI mask (m + 1) p=dh mask (leap mask p.i p.perturb).1 (leap mask p.i p.perturb).2:=by
 intro m
 induction m with
 | zero =>
  intro p h d
  show adv mask p=_
  unfold adv
  rw [if_neg (by omega)]
  obtain ⟨j,mo,i,pe,dm⟩:=p
  cases d
  rfl
 | succ m ih =>
  intro p h d
  show nI mask (m + 1) (adv mask p)=_
  have e:adv mask p={ p with j:=p.j + 1,more:=p.more - 1 }:=by unfold adv; rw [if_pos (by omega)]
  rw [e]
  exact ih _ (by dsimp only; omega) d
def cK (mask:Nat):Nat->Nat × Nat->Nat × Nat
 | 0,x=>x
 | k + 1,x=>cK mask k (leap mask x.1 x.2)
theorem ml (mask:Nat):∀ (a b:Nat) (x:Nat × Nat),cK mask (a + b) x=cK mask b (cK mask a x)
 | 0,b,x=>by rw [De]; rfl
 | a + 1,b,x=>by rw [show a + 1 + b=(a + b) + 1 by omega]; exact ml mask a b _
theorem more_le (mask i:Nat):runEnd mask i - i<=9:=by unfold runEnd; split <;> omega
theorem qF (mask:Nat):∀ (k i pe:Nat),∃ n,n<=10 * k/\nI mask n (dh mask i pe)=dh mask (cK mask k (i,pe)).1 (cK mask k (i,pe)).2:=by
 intro k
 induction k with
 | zero=>intro i pe; exact ⟨0,by omega,rfl⟩
 | succ k ih =>
  intro i pe
  obtain ⟨n,h1,h2⟩:=ih (leap mask i pe).1 (leap mask i pe).2
  refine ⟨(runEnd mask i - i + 1) + n,by have:=more_le mask i; omega,?_⟩
  rw [oT,xu mask (runEnd mask i - i) (dh mask i pe) rfl rfl]
  exact h2
theorem gN (mask:Nat):∀ (k i pe:Nat),(cK mask k (i,pe)).2=pe / 32 ^ k
 | 0,i,pe=>by simp [cK]
 | k + 1,i,pe=>by
  show (cK mask k (leap mask i pe)).2=_
  rw [show leap mask i pe=((leap mask i pe).1,pe / 32) from rfl,gN mask k,Nat.div_div_eq_div_mul,Nat.pow_succ,Nat.mul_comm 32]
theorem oU (mask:Nat):∀ (k i pe:Nat),i<=mask->(cK mask k (i,pe)).1<=mask
 | 0,i,pe,h=>h
 | k + 1,i,pe,h=>by
  show (cK mask k (leap mask i pe)).1<=mask
  rw [show leap mask i pe=((leap mask i pe).1,pe / 32) from rfl]
  exact oU mask k _ _ (Dc (Ed _ (DT mask)))
def ste (m i:Nat):Nat:=(i * 5 + 1) % m
def its (m:Nat):Nat->Nat->Nat
 | 0,i=>i
 | n + 1,i=>its m n (ste m i)
theorem jE (m:Nat):∀ (a b i:Nat),its m (a + b) i=its m b (its m a i)
 | 0,b,i=>by rw [De]; rfl
 | a + 1,b,i=>by rw [show a + 1 + b=(a + b) + 1 by omega]; exact jE m a b _
def orb (m:Nat):Nat->Nat->List Nat
 | 0,_=>[]
 | n + 1,i=>i :: orb m n (ste m i)
theorem nJ (m:Nat):∀ (n i j:Nat),j ∈ orb m n i->∃ r,r < n/\its m r i=j
 | 0,i,j,h=>by cases h
 | n + 1,i,j,h=>by
  rcases A6.mp h with h | h
  ·exact ⟨0,by omega,h.symm⟩
  ·obtain ⟨r,a,b⟩:=nJ m n _ _ h
   exact ⟨r + 1,by omega,b⟩
def whole (m:Nat):Bool:=((List.range m).all fun j=>(orb m m 0).contains j) && (its m m 0 == 0)
theorem tM {m:Nat} (h:whole m=true) {i j:Nat} (hi:i < m) (hj:j < m):∃ r,r < m/\its m r i=j:=by
 unfold whole at h
 rw [Co,CT,beq_iff_eq] at h
 obtain ⟨h1,h2⟩:=h
 obtain ⟨a,a1,a2⟩:=nJ m m 0 i (Fz.mp (h1 i (BP.mpr hi)))
 obtain ⟨b,b1,b2⟩:=nJ m m 0 j (Fz.mp (h1 j (BP.mpr hj)))
 by_cases hab:a<=b
 ·refine ⟨b - a,by omega,?_⟩
  rw [<- a2, <- jE,show a + (b - a)=b by omega]
  exact b2
 ·refine ⟨m + b - a,by omega,?_⟩
  rw [<- a2, <- jE,show a + (m + b - a)=m + b by omega,jE,h2]
  exact b2
theorem zw:whole 8=true:=by decide +kernel
theorem xv:whole 32=true:=by decide +kernel
theorem vg:whole 128=true:=by decide +kernel
theorem vh:whole 512=true:=by decide +kernel
def Msk (mask:Nat):Prop:=mask=7\/mask=31\/mask=127\/mask=511
theorem Msk.whole {mask:Nat} (h:Msk mask):whole (mask + 1)=true:=by
 rcases h with rfl | rfl | rfl | rfl
 ·exact zw
 ·exact xv
 ·exact vg
 ·exact vh
theorem mq (mask:Nat):∀ (r i:Nat),cK mask r (i,0)=(its (mask + 1) r i,0)
 | 0,i=>rfl
 | r + 1,i=>by
  show cK mask r (leap mask i 0)=_
  rw [show leap mask i 0=(ste (mask + 1) i,0) from rfl,mq mask r]; rfl
theorem xw (h:Int):bits h < 2 ^ 64:=by
 unfold bits
 have h1:=CD h (show (0:Int) < 2 ^ 64 by decide)
 have h0:=CO h (show (2 ^ 64:Int) ≠ 0 by decide)
 have:((2 ^ 64:Nat):Int)=2 ^ 64:=by decide
 omega
theorem kg {mask:Nat} (hm:Msk mask) {h:Int} {j:Nat} (hj:j<=mask):∃ k,k < turns mask/\(cK mask k (bits h % (mask + 1),bits h)).1=j:=by
 have p0:(cK mask 13 (bits h % (mask + 1),bits h)).2=0:=by
  rw [gN]
  exact Nat.div_eq_of_lt (Ba (xw h) (by decide))
 have i0:=oU mask 13 (bits h % (mask + 1)) (bits h) (Dc (Ed _ (DT mask)))
 obtain ⟨r,r1,r2⟩:=tM hm.whole (i:=(cK mask 13 (bits h % (mask + 1),bits h)).1) (j:=j) (by omega) (by omega)
 refine ⟨13 + r,by unfold turns; omega,?_⟩
 rw [ml,show cK mask 13 (bits h % (mask + 1),bits h)=((cK mask 13 (bits h % (mask + 1),bits h)).1,0) from FU rfl p0,mq]
 exact r2
theorem vi {mask:Nat} (hm:Msk mask) (oc:Nat->Prop) (h:Int) {j:Nat} (hj:j<=mask) (he:¬ oc j):∃ n q,n < 10 * turns mask/\Way oc mask n (start mask h) q/\¬ oc q.j/\q.j<=mask/\q.dummy=none:=by
 obtain ⟨k,k1,k2⟩:=kg hm (h:=h) hj
 obtain ⟨n,n1,n2⟩:=qF mask k (bits h % (mask + 1)) (bits h)
 obtain ⟨n',q,a,b,c⟩:=tL oc mask n (start mask h) (by
  show ¬ oc (nI mask n (dh mask _ _)).j
  rw [n2]
  show ¬ oc (cK mask k (bits h % (mask + 1),bits h)).1
  rw [k2]
  exact he)
 exact ⟨n',q,by omega,b,c,b.le (oS mask h),b.dummy⟩
theorem mv {mask n:Nat} (oc:Nat->Prop) (f:Nat->Nat) (hf:∀ j,j<=mask->oc j->f j < n) (inj:∀ i j,i<=mask->j<=mask->oc i->oc j->f i=f j->i=j) (hn:n<=mask):∃ j,j<=mask/\¬ oc j:=by
 by_cases q:∃ j,j<=mask/\¬ oc j
 ·exact q
 ·exfalso
  have all:∀ j,j<=mask->oc j:=fun j hj=>by
   by_cases o:oc j
   ·exact o
   ·exact absurd ⟨j,hj,o⟩ q
  have nd:((List.range (mask + 1)).map f).Nodup:=by
   unfold List.Nodup
   rw [BQ]
   refine DU (fun {a b} ha hb hab e=>hab (inj a b ?_ ?_ (all _ ?_) (all _ ?_) e)) (GB)
   all_goals (rw [BP] at ha hb; omega)
  have:=B1 nd (l₂:=List.range n) (fun x hx=>by
   obtain ⟨j,hj,e⟩:=Bc.mp hx
   rw [BP] at hj ⊢
   rw [<- e]
   exact hf j (by omega) (all j (by omega)))
  rw [AM,Ci,Ci] at this
  omega
open PySem PySem.SetTable
structure Tab (t:SetTable) (hs:Array Int):Prop where
 dm:t.dummies = #[]
 rise:nH t.place
 size:t.place.size=hs.size
 le:∀ i j:Nat,t.place[i]? = some j->j<=t.mask
 msk:Msk t.mask
 fit:hs.size<=t.mask
 reach:∀ (i j:Nat) (h:Int),t.place[i]? = some j->hs[i]? = some h->∃ n q,Way (occ t) t.mask n (start t.mask h) q/\q.j=j
theorem eM {α : Type} {xs:Array α} {i:Nat} {a : α} (h:xs[i]? = some a):i < xs.size:=by
 apply Dn; intro q; rw [Cq q] at h; cases h
theorem Tab.fill {t:SetTable} {hs:Array Int} (T:Tab t hs):t.fill=hs.size:=by
 unfold SetTable.fill; rw [T.dm,T.size]; rfl
theorem Tab.fits {t:SetTable} {hs:Array Int} (T:Tab t hs):t.fits hs.size=true:=by
 unfold SetTable.fits
 rw [T.fill,T.size]
 simp [T.fit]
theorem Tab.ends {t:SetTable} {hs:Array Int} (T:Tab t hs) (h:Int):∃ n q,n < 10 * turns t.mask/\Way (occ t) t.mask n (start t.mask h) q/\¬ occ t q.j/\q.j<=t.mask/\q.dummy=none:=by
 obtain ⟨j,hj,he⟩:=mv (mask:=t.mask) (n:=hs.size) (occ t) (fun j=>below t.place j)
  (fun j _ ⟨i,e⟩=>by show below t.place j < hs.size; rw [below_at T.rise e, <- T.size]; exact eM e)
  (fun i j _ _ ⟨a,ea⟩ ⟨b,eb⟩ e=>by
   have e':below t.place i=below t.place j:=e
   rw [below_at T.rise ea,below_at T.rise eb] at e'
   subst e'
   exact Bb (ea.symm.trans eb)) T.fit
 exact vi T.msk (occ t) h hj he
theorem vj {t:SetTable} {hs:Array Int} (T:Tab t hs) {H:Nat->Int} {h:Int}:∀ (n:Nat) (p q:Probe) (fuel:Nat),Way (occ t) t.mask n p q->¬ occ t q.j->n < fuel->p.dummy=none →
  (SetTable.probe.go t H h fuel p=some (.empty q.j none)/\∀ k r i,Way (occ t) t.mask k p r->t.place[i]? = some r.j->H i ≠ h) ∨
  (∃ k r i,k < n/\Way (occ t) t.mask k p r/\t.place[i]? = some r.j/\H i=h/\SetTable.probe.go t H h fuel p=some (.candidate r.j i (adv t.mask r))/\Way (occ t) t.mask (n - k - 1) (adv t.mask r) q/\(adv t.mask r).dummy=none
   /\ ∀ k' r' i',k' < k->Way (occ t) t.mask k' p r'->t.place[i']? = some r'.j->H i' ≠ h):=by
 intro n
 induction n with
 | zero =>
  intro p q fuel W he hf hd
  cases W
  obtain ⟨fuel,rfl⟩:∃ f,fuel=f + 1:=⟨fuel - 1,by omega⟩
  refine .inl ⟨?_,fun k r i Wr er => ?_⟩
  ·unfold SetTable.probe.go
   rw [qE T.dm he]
   dsimp only
   rw [hd]
  ·cases Wr with
   | here=>exact absurd ⟨i,er⟩ he
   | step a _=>exact absurd a he
 | succ n ih =>
  intro p q fuel W he hf hd
  obtain ⟨fuel,rfl⟩:∃ f,fuel=f + 1:=⟨fuel - 1,by omega⟩
  cases W with
  | step a W =>
   obtain ⟨i,ei⟩:=a
   have hd':(adv t.mask p).dummy=none:=by rw [<- hd]; unfold adv; split <;> rfl
   by_cases hh:H i=h
   ·refine .inr ⟨0,p,i,by omega,.here p,ei,hh,?_,W,hd',fun k' r' i' hk=>by omega⟩
    unfold SetTable.probe.go
    rw [iT T.rise ei]
    dsimp only
    rw [if_pos (by rw [hh]; exact beq_self_eq_true h)]
    rfl
   ·have e0:SetTable.probe.go t H h (fuel + 1) p=SetTable.probe.go t H h fuel (adv t.mask p):=by
     conv=>lhs; unfold SetTable.probe.go
     rw [iT T.rise ei]
     dsimp only
     rw [if_neg (by rw [beq_iff_eq]; exact hh)]
     rfl
    rcases ih (adv t.mask p) q fuel W he (by omega) hd' with ⟨r1,r2⟩ | ⟨k,r,i',k1,w1,e1,h1,g1,w2,d2,no⟩
    ·refine .inl ⟨e0.trans r1,fun k r j Wr er => ?_⟩
     cases Wr with
     | here =>
      obtain rfl:i=j:=by
       have x:=below_at T.rise ei
       have y:=below_at T.rise er
       exact x.symm.trans y
      exact hh
     | step _ Wr=>exact r2 _ _ _ Wr er
    ·refine .inr ⟨k + 1,r,i',by omega,.step ⟨i,ei⟩ w1,e1,h1,e0.trans g1,by rw [show n + 1 - (k + 1) - 1=n - k - 1 by omega]; exact w2,d2,fun k' r' j hk Wr er => ?_⟩
     cases Wr with
     | here =>
      obtain rfl:i=j:=by
       have x:=below_at T.rise ei
       have y:=below_at T.rise er
       exact x.symm.trans y
      exact hh
     | step _ Wr=>exact no _ _ _ (by omega) Wr er
theorem oV {t:SetTable} {hs:Array Int} (T:Tab t hs) {H:Nat->Int} {h:Int} {n:Nat} {p q:Probe} (W:Way (occ t) t.mask n p q) (he:¬ occ t q.j) (hn:n < 10 * turns t.mask) (hd:p.dummy=none) :
  (t.probe H h p=some (.empty q.j none)/\∀ k r i,Way (occ t) t.mask k p r->t.place[i]? = some r.j->H i ≠ h) ∨
  (∃ k r i,k < n/\Way (occ t) t.mask k p r/\t.place[i]? = some r.j/\H i=h/\t.probe H h p=some (.candidate r.j i (adv t.mask r))/\Way (occ t) t.mask (n - k - 1) (adv t.mask r) q/\(adv t.mask r).dummy=none
   /\ ∀ k' r' i',k' < k->Way (occ t) t.mask k' p r'->t.place[i']? = some r'.j->H i' ≠ h) :=
 vj T n p q _ W he hn hd
theorem Tab.vm {t:SetTable} {hs:Array Int} (T:Tab t hs) (j:Nat):t.put j=({ t with place:=insertAt t.place (below t.place j) j },below t.place j):=by
 unfold SetTable.put
 dsimp only
 have:has t.dummies j=false:=by rw [T.dm]; simp [has]
 rw [this]
 rfl
theorem Tab.put {t:SetTable} {hs:Array Int} (T:Tab t hs) {h:Int} {n:Nat} {q:Probe} (W:Way (occ t) t.mask n (start t.mask h) q) (he:¬ occ t q.j) (hq:q.j<=t.mask) (hf:hs.size + 1<=t.mask) :
  Tab { t with place:=insertAt t.place (below t.place q.j) q.j } (insertAt hs (below t.place q.j) h):=by
 have hp:=(dJ T.rise q.j).1
 have hp':below t.place q.j<=hs.size:=by rw [<- T.size]; exact hp
 have up:∀ j,occ t j->occ { t with place:=insertAt t.place (below t.place q.j) q.j } j:=by
  rintro j ⟨i,e⟩
  by_cases l:i < below t.place q.j
  ·exact ⟨i,by show (insertAt _ _ _)[i]? = _; rw [cx _ hp,if_pos l]; exact e⟩
  ·exact ⟨i + 1,by show (insertAt _ _ _)[i + 1]? = _; rw [cx _ hp,if_neg (by omega),if_neg (by omega)]; exact e⟩
 refine ⟨T.dm,lE T.rise fun i e=>he ⟨i,e⟩,?_,fun i j e => ?_,T.msk,by rw [cD]; exact hf,fun i j h' e eh => ?_⟩
 ·show (insertAt _ _ _).size=_
  rw [cD,cD,T.size]
 ·have e':(insertAt t.place (below t.place q.j) q.j)[i]? = some j:=e
  rw [cx _ hp] at e'
  split at e'
  ·exact T.le _ _ e'
  ·split at e'
   ·cases e'; exact hq
   ·exact T.le _ _ e'
 ·have e':(insertAt t.place (below t.place q.j) q.j)[i]? = some j:=e
  rw [cx _ hp] at e'
  rw [cx _ hp'] at eh
  by_cases l1:i < below t.place q.j
  ·rw [if_pos l1] at e' eh
   obtain ⟨n',q',w,eq⟩:=T.reach _ _ _ e' eh
   exact ⟨n',q',w.mono up,eq⟩
  ·rw [if_neg l1] at e' eh
   by_cases l2:i=below t.place q.j
   ·rw [if_pos l2] at e' eh
    cases e'; cases eh
    exact ⟨n,q,W.mono up,rfl⟩
   ·rw [if_neg l2] at e' eh
    obtain ⟨n',q',w,eq⟩:=T.reach _ _ _ e' eh
    exact ⟨n',q',w.mono up,eq⟩
def ocw (owner:Array (Option Nat)) (j:Nat):Prop:=∃ k,owner[j]? = some (some k)
theorem Way.trans {oc:Nat->Prop} {mask n m:Nat} {p q r:Probe} (h:Way oc mask n p q) (h2:Way oc mask m q r):∃ k,Way oc mask k p r:=by
 induction h with
 | here=>exact ⟨m,h2⟩
 | step a _ ih=>obtain ⟨k,w⟩:=ih h2; exact ⟨k + 1,.step a w⟩
theorem nK (oc:Nat->Prop) (mask:Nat):∀ (k:Nat) (p:Probe),k<=p.more->(∀ k',k' < k->oc (p.j + k'))->Way oc mask k p { p with j:=p.j + k,more:=p.more - k }
 | 0,p,_,_ => .here p
 | k + 1,p,h,ho=>by
  have e:adv mask p={ p with j:=p.j + 1,more:=p.more - 1 }:=by unfold adv; rw [if_pos (by omega)]
  refine .step (ho 0 (by omega)) ?_
  rw [e]
  have:=nK oc mask k { p with j:=p.j + 1,more:=p.more - 1 } (by dsimp only; omega) fun k' hk=>by
   have:=ho (k' + 1) (by omega)
   rw [show p.j + (k' + 1)=p.j + 1 + k' by omega] at this
   exact this
  dsimp only at this
  rw [show p.j + 1 + k=p.j + (k + 1) by omega,show p.more - 1 - k=p.more - (k + 1) by omega] at this
  exact this
theorem fL {owner:Array (Option Nat)} {mask j:Nat} (hs:owner.size=mask + 1) (hj:j<=mask):(owner.getD j (some 0)).isNone=true ↔ ¬ ocw owner j:=by
 have hl:j < owner.size:=by omega
 have e:owner[j]? = some owner[j]:=Be hl
 rw [show owner.getD j (some 0)=owner[j] by simp [Array.getD,hl]]
 unfold ocw
 rw [e]
 cases owner[j] with
 | none=>simp
 | some k=>simp
theorem mw {mask i:Nat} (h:i<=mask):runEnd mask i<=mask/\i<=runEnd mask i:=by
 unfold runEnd; split <;> omega
theorem tN {mask:Nat} {owner:Array (Option Nat)} (hs:owner.size=mask + 1):∀ (fuel i pe j:Nat),i<=mask->SetTable.layClean.free mask owner fuel i pe=some j →
  ¬ ocw owner j/\∃ n q,Way (ocw owner) mask n (dh mask i pe) q/\q.j=j:=by
 intro fuel
 induction fuel with
 | zero=>intro i pe j hi h; unfold SetTable.layClean.free at h; cases h
 | succ fuel ih =>
  intro i pe j hi h
  unfold SetTable.layClean.free at h
  obtain ⟨r1,r2⟩:=mw hi
  have no:∀ k,k < runEnd mask i + 1 - i->((owner.getD (i + k) (some 0)).isNone=false)->ocw owner (i + k):=fun k hk e=>by
   by_cases o:ocw owner (i + k)
   ·exact o
   ·rw [(fL hs (by omega)).mpr o] at e; cases e
  cases hf:(List.range (runEnd mask i + 1 - i)).find? fun k=>(owner.getD (i + k) (some 0)).isNone with
  | some k =>
   rw [hf] at h
   dsimp only at h
   cases h
   rw [List.find?_range_eq_some] at hf
   obtain ⟨f1,f2,f3⟩:=hf
   rw [BP] at f2
   refine ⟨(fL hs (by omega)).mp f1,k,_,nK (ocw owner) mask k (dh mask i pe) (by show k<=runEnd mask i - i; omega) fun k' hk => ?_,rfl⟩
   refine no k' (by omega) ?_
   have:=f3 k' hk
   simpa using this
  | none =>
   rw [hf] at h
   dsimp only at h
   rw [E4] at hf
   have all:∀ k,k < runEnd mask i + 1 - i->ocw owner (i + k):=fun k hk=>no k hk (by simpa using hf k hk)
   obtain ⟨g1,n,q,w,eq⟩:=ih _ _ _ (Dc (Ed _ (DT mask))) h
   refine ⟨g1,?_⟩
   have w0:=nK (ocw owner) mask (runEnd mask i - i) (dh mask i pe) (AS _) fun k' hk=>all k' (by omega)
   have w1:Way (ocw owner) mask (n + 1) { (dh mask i pe) with j:=(dh mask i pe).j + (runEnd mask i - i),more:=(dh mask i pe).more - (runEnd mask i - i) } q:=by
    refine .step (all (runEnd mask i - i) (by omega)) ?_
    have e:adv mask { (dh mask i pe) with j:=(dh mask i pe).j + (runEnd mask i - i),more:=(dh mask i pe).more - (runEnd mask i - i) }=dh mask (leap mask i pe).1 (leap mask i pe).2:=by
     unfold adv
     rw [if_neg (by show ¬ (runEnd mask i - i - (runEnd mask i - i)) > 0; omega)]
     rfl
    rw [e]
    exact w
   obtain ⟨k,w2⟩:=w0.trans w1
   exact ⟨k,q,w2,eq⟩
theorem tO {mask:Nat} {owner:Array (Option Nat)} (hs:owner.size=mask + 1):∀ (fuel i pe k:Nat),i<=mask->k < fuel->¬ ocw owner (cK mask k (i,pe)).1->∃ j,SetTable.layClean.free mask owner fuel i pe=some j:=by
 intro fuel
 induction fuel with
 | zero=>intro i pe k _ h; omega
 | succ fuel ih =>
  intro i pe k hi hk he
  unfold SetTable.layClean.free
  obtain ⟨r1,r2⟩:=mw hi
  cases hf:(List.range (runEnd mask i + 1 - i)).find? fun k=>(owner.getD (i + k) (some 0)).isNone with
  | some k=>exact ⟨_,rfl⟩
  | none =>
   dsimp only
   rw [E4] at hf
   cases k with
   | zero =>
    have h0:=hf 0 (by omega)
    have:(owner.getD (i + 0) (some 0)).isNone=true:=(fL hs (by omega)).mpr he
    rw [this] at h0
    cases h0
   | succ k=>exact ih _ _ k (Dc (Ed _ (DT mask))) (by omega) he
structure Own (mask:Nat) (owner:Array (Option Nat)) (hs:List Int):Prop where
 size:owner.size=mask + 1
 cov:∀ (k:Nat) (h:Int),hs[k]? = some h->∃ j n q,owner[j]? = some (some k)/\Way (ocw owner) mask n (start mask h) q/\q.j=j
 bnd:∀ j k:Nat,owner[j]? = some (some k)->k < hs.length
 inj:∀ i j k:Nat,owner[i]? = some (some k)->owner[j]? = some (some k)->i=j
theorem Own.step {mask:Nat} (hm:Msk mask) {owner:Array (Option Nat)} {hs:List Int} (O:Own mask owner hs) (h:Int) (hl:hs.length<=mask) :
  ∃ j,SetTable.layClean.free mask owner (turns mask) (bits h % (mask + 1)) (bits h)=some j/\Own mask (owner.setIfInBounds j (some hs.length)) (hs ++ [h]):=by
 obtain ⟨e,he,hne⟩:=mv (mask:=mask) (n:=hs.length) (ocw owner) (fun j=>(owner.getD j none).getD 0)
  (fun j _ ⟨k,ek⟩=>by
   have:=eM ek
   show (owner.getD j none).getD 0 < _
   rw [show owner.getD j none=some k by rw [Cn,ek]; rfl]
   exact O.bnd j k ek)
  (fun i j _ _ ⟨a,ea⟩ ⟨b,eb⟩ q=>by
   have q':(owner.getD i none).getD 0=(owner.getD j none).getD 0:=q
   rw [show owner.getD i none=some a by rw [Cn,ea]; rfl,show owner.getD j none=some b by rw [Cn,eb]; rfl] at q'
   have q'':a=b:=q'
   subst q''
   exact O.inj i j a ea eb) hl
 have i0:bits h % (mask + 1)<=mask:=Dc (Ed _ (DT mask))
 obtain ⟨k,k1,k2⟩:=kg hm (h:=h) he
 obtain ⟨j,hj⟩:=tO O.size (turns mask) _ _ k i0 k1 (by rw [k2]; exact hne)
 obtain ⟨hno,n,q,w,eq⟩:=tN O.size _ _ _ _ i0 hj
 have hjm:j<=mask:=by rw [<- eq]; exact w.le (oS mask h)
 have hjs:j < owner.size:=by rw [O.size]; omega
 have ej:owner[j]? = some none:=by
  rw [Be hjs]
  cases ho:owner[j] with
  | none=>rfl
  | some k=>exact absurd ⟨k,by rw [Be hjs,ho]⟩ hno
 have get:∀ i:Nat,(owner.setIfInBounds j (some hs.length))[i]? = if i=j then some (some hs.length) else owner[i]? := fun i=>by
  rw [Array.getElem?_setIfInBounds]
  by_cases q:j=i
  ·rw [if_pos q,if_pos q.symm,if_pos hjs]
  ·rw [if_neg q,if_neg (BN q)]
 have up:∀ i,ocw owner i->ocw (owner.setIfInBounds j (some hs.length)) i:=by
  rintro i ⟨k,ek⟩
  refine ⟨k,?_⟩
  rw [get,if_neg (fun q=>by rw [q,ej] at ek; cases ek)]
  exact ek
 refine ⟨j,hj,by rw [E3]; exact O.size,fun k h' eh => ?_,fun i k ek => ?_,fun i i' k ei ei' => ?_⟩
 ·by_cases lk:k < hs.length
  ·rw [Bf lk] at eh
   obtain ⟨j',n',q',a,b,c⟩:=O.cov k h' eh
   refine ⟨j',n',q',?_,b.mono up,c⟩
   rw [get,if_neg (fun q=>by rw [q,ej] at a; cases a)]
   exact a
  ·rw [Bk (by omega)] at eh
   have:k - hs.length=0:=by
    cases hk:k - hs.length with
    | zero=>rfl
    | succ m=>rw [hk] at eh; cases eh
   rw [this] at eh
   cases eh
   obtain rfl:k=hs.length:=by omega
   exact ⟨j,n,q,by rw [get,if_pos rfl],w.mono up,eq⟩
 ·rw [AQ,BV]
  rw [get] at ek
  split at ek
  ·cases ek; omega
  ·have:=O.bnd _ _ ek; omega
 ·rw [get] at ei ei'
  by_cases q1:i=j
  ·by_cases q2:i'=j
   ·rw [q1,q2]
   ·rw [if_pos q1] at ei; rw [if_neg q2] at ei'
    cases ei
    have:=O.bnd _ _ ei'; omega
  ·rw [if_neg q1] at ei
   by_cases q2:i'=j
   ·rw [if_pos q2] at ei'
    cases ei'
    have:=O.bnd _ _ ei; omega
   ·rw [if_neg q2] at ei'
    exact O.inj _ _ _ ei ei'
theorem oW {mask:Nat} (hm:Msk mask):∀ (l:List Int) (owner:Array (Option Nat)) (hs:List Int),Own mask owner hs->hs.length + l.length<=mask + 1 →
    ∃ owner',l.foldl (fun acc h=>do
      let (owner,k) ← acc
      let j ← SetTable.layClean.free mask owner (turns mask) (bits h % (mask + 1)) (bits h)
      pure (owner.setIfInBounds j (some k),k + 1)) (some (owner,hs.length))=some (owner',hs.length + l.length)/\Own mask owner' (hs ++ l)
  | [],owner,hs,O,_=>⟨owner,rfl,by rw [BM]; exact O⟩
  | h :: l,owner,hs,O,hl=>by
    rw [Bn] at hl
    obtain ⟨j,hj,O'⟩:=O.step hm h (by omega)
    obtain ⟨owner',e,O''⟩:=oW hm l _ _ O' (by rw [AQ,BV]; omega)
    refine ⟨owner',?_,by rw [Bo] at O''; exact O''⟩
    rw [Fv]
    have:(do
      let (owner,k) ← some (owner,hs.length)
      let j ← SetTable.layClean.free mask owner (turns mask) (bits h % (mask + 1)) (bits h)
      pure (owner.setIfInBounds j (some k),k + 1):Option (Array (Option Nat) × Nat))=some (owner.setIfInBounds j (some hs.length),(hs ++ [h]).length):=by
      show (SetTable.layClean.free mask owner (turns mask) (bits h % (mask + 1)) (bits h)).bind _=_
      rw [hj,AQ]
      rfl
    rw [this,e]
    rw [AQ,BV,Bn]
    congr 2
    omega
theorem oX {mask:Nat} (hm:Msk mask) (hs:Array Int) (hl:hs.size<=mask + 1):∃ owner,SetTable.layClean mask hs=some owner/\Own mask owner hs.toList:=by
  have O0:Own mask (Array.replicate (mask + 1) none) []:=by
    refine ⟨by simp,fun k h e=>by simp at e,fun j k e => ?_,fun i j k e => ?_⟩
    · rw [E5] at e; split at e <;> cases e
    · rw [E5] at e; split at e <;> cases e
  obtain ⟨owner,e,O⟩:=oW hm hs.toList _ [] O0 (by rw [CB,AW]; omega)
  refine ⟨owner,?_,by rw [D6] at O; exact O⟩
  unfold SetTable.layClean
  rw [<- Array.foldl_toList]
  have e':hs.toList.foldl (fun acc h=>do
      let (owner,k) ← acc
      let j ← SetTable.layClean.free mask owner (turns mask) (bits h % (mask + 1)) (bits h)
      pure (owner.setIfInBounds j (some k),k + 1)) (some (Array.replicate (mask + 1) none,0))=some (owner,0 + hs.toList.length):=e
  rw [e']
  rfl
theorem filterMap_get {α β : Type} {f : α -> Option β}:∀ (l:List α),(∀ x ∈ l,(f x).isSome=true)->∀ i:Nat,(l.filterMap f)[i]? = l[i]?.bind f
 | [],_,i=>by simp
 | x :: l,h,i=>by
  obtain ⟨y,hy⟩:=DQ.mp (h x Bg)
  rw [List.filterMap_cons_some hy]
  cases i with
  | zero=>simp [hy]
  | succ i =>
   rw [Cm,Cm]
   exact filterMap_get l (fun z hz=>h z (Bh _ hz)) i
theorem xx {mask:Nat} (hm:Msk mask) (finger moves:Nat) (led plain:Bool) (es:Array (Int × Value)) (hl:es.size<=mask) :
  ∃ t order,SetTable.laid mask finger moves led plain (es.map (·.1))=some (t,order)/\order.toList.Perm (List.range es.size)/\Tab t ((order.filterMap (es[·]?)).map (·.1))/\(order.filterMap (es[·]?)).toList.Perm es.toList/\t.led=led/\t.plain=plain/\t.mask=mask:=by
 obtain ⟨owner,e,O⟩:=oX hm (es.map (·.1)) (by rw [BD]; omega)
 refine ⟨_,_,by unfold SetTable.laid; rw [e]; rfl,?_⟩
 generalize hlive:((List.range (mask + 1)).filterMap fun j=>(owner.getD j none).map (j, ·))=live
 have mem:∀ j k,(j,k) ∈ live ↔ owner[j]? = some (some k):=fun j k=>by
  rw [<- hlive,D1]
  constructor
  ·rintro ⟨a,ha,ea⟩
   rw [Cn] at ea
   cases ho:owner[a]? with
   | none=>rw [ho] at ea; cases ea
   | some x =>
    rw [ho] at ea
    cases x with
    | none=>cases ea
    | some k'=>cases ea; exact ho
  ·intro ho
   refine ⟨j,?_,?_⟩
   ·rw [BP, <- O.size]; exact eM ho
   ·rw [Cn,ho]; rfl
 have pw:live.Pairwise (fun a b=>a.1 < b.1):=by
  rw [<- hlive,List.pairwise_filterMap]
  refine Hj (fun {a b} hab x hx y hy => ?_) Fq
  have hx':x.1=a:=by cases ho:owner.getD a none with
   | none=>rw [ho] at hx; cases hx
   | some k=>rw [ho] at hx; cases hx; rfl
  have hy':y.1=b:=by cases ho:owner.getD b none with
   | none=>rw [ho] at hy; cases hy
   | some k=>rw [ho] at hy; cases hy; rfl
  rw [hx',hy']; exact hab
 have nd:(live.map (·.2)).Nodup:=by
  unfold List.Nodup
  rw [BQ]
  refine DU (fun {a b} ha hb hab q => ?_) pw
  have:=O.inj a.1 b.1 a.2 ((mem _ _).mp ha) (by rw [q]; exact (mem _ _).mp hb)
  omega
 have hlen:(es.map (·.1)).toList.length=es.size:=by rw [AW,BD]
 have perm:(live.map (·.2)).Perm (List.range es.size):=by
  rw [EJ nd GB]
  intro k
  rw [BP,Bc]
  constructor
  ·rintro ⟨⟨j,k'⟩,hm',rfl⟩
   have:=O.bnd _ _ ((mem _ _).mp hm')
   rw [hlen] at this
   exact this
  ·intro hk
   obtain ⟨j,_,_,ej,_⟩:=O.cov k _ (AO (by rw [hlen]; exact hk))
   exact ⟨(j,k),(mem _ _).mpr ej,rfl⟩
 have all:∀ x ∈ live.map (·.2),(es[x]?).isSome=true:=fun x hx=>by
  have:=(perm.mem_iff).mp hx
  rw [BP] at this
  rw [Be this]; rfl
 have tl:(live.map (·.2)).toArray.toList=live.map (·.2):=rfl
 have ll:live.length=es.size:=by have:=perm.length_eq; rw [AM,Ci] at this; exact this
 have fm:((live.map (·.2)).toArray.filterMap (es[·]?)).toList=(live.map (·.2)).filterMap (es[·]?):=by simp
 have fl:((live.map (·.2)).filterMap (es[·]?)).Perm es.toList:=by
  have p1:=perm.filterMap (es[·]?)
  have:(List.range es.size).filterMap (es[·]?)=es.toList:=by
   apply Cy
   intro i
   rw [filterMap_get _ (fun x hx=>by rw [BP] at hx; rw [Be hx]; rfl)]
   by_cases hi:i < es.size
   ·rw [Di hi,A3]; rfl
   ·rw [Bl (by rw [Ci]; omega),Bl (by rw [AW]; omega)]; rfl
  rw [this] at p1
  exact p1
 refine ⟨perm,?_,by rw [fm]; exact fl,rfl,rfl,rfl⟩
 have sz:(((live.map (·.2)).toArray.filterMap (es[·]?)).map (·.1)).size=es.size:=by
  rw [BD, <- AW,fm,fl.length_eq,AW]
 have occ_of:∀ j,ocw owner j->occ { mask:=mask,place:=(live.map (·.1)).toArray,dummies := #[],finger:=finger,led:=led,moves:=moves,plain:=plain } j:=by
  rintro j ⟨k,ek⟩
  obtain ⟨i,hi,ei⟩:=DM ((mem j k).mpr ek)
  refine ⟨i,?_⟩
  show (live.map (·.1)).toArray[i]? = some j
  rw [Bs,AX,AO hi,ei]
  rfl
 refine ⟨rfl,fun i j a b ea eb hij => ?_,?_,fun i j ej => ?_,hm,by rw [sz]; exact hl,fun i j h ej eh => ?_⟩
 ·have ea':(live.map (·.1)).toArray[i]? = some a:=ea
  have eb':(live.map (·.1)).toArray[j]? = some b:=eb
  rw [Bs] at ea' eb'
  have pw':(live.map (·.1)).Pairwise (· < ·):=by rw [BQ]; exact pw
  obtain ⟨hi,xi⟩:=AU.mp ea'
  obtain ⟨hj,xj⟩:=AU.mp eb'
  rw [<- xi, <- xj]
  exact C2.mp pw' i j hi hj hij
 ·show (live.map (·.1)).toArray.size=_
  rw [sz,AR,AM,ll]
 ·have ej':(live.map (·.1)).toArray[i]? = some j:=ej
  rw [Bs,AX] at ej'
  cases hx:live[i]? with
  | none=>rw [hx] at ej'; cases ej'
  | some x =>
   rw [hx] at ej'
   cases ej'
   have:=eM ((mem x.1 x.2).mp (AY hx))
   show x.1<=mask
   rw [O.size] at this
   omega
 ·have ej':(live.map (·.1)).toArray[i]? = some j:=ej
  rw [Bs,AX] at ej'
  cases hx:live[i]? with
  | none=>rw [hx] at ej'; cases ej'
  | some x =>
   rw [hx] at ej'
   cases ej'
   have ho:=(mem x.1 x.2).mp (AY hx)
   have hk:=O.bnd _ _ ho
   rw [FX, <- A3,fm,filterMap_get _ all,AX,hx] at eh
   have eh':(es[x.2]?).map (·.1)=some h:=eh
   obtain ⟨j',n,q,a,b,c⟩:=O.cov x.2 h (by rw [Eu,AX,A3]; exact eh')
   obtain rfl:=O.inj _ _ _ ho a
   exact ⟨n,q,b.mono occ_of,c⟩
open PySem PySem.SetTable PyProof.Rows
section
variable {prog:Program} {w:World} {A:Around} {E:Value->Shared->Prop} {s:Shared}
abbrev TK (prog:Program) (w:World):=IsTupleKey (prog:=prog) (w:=w) (intKind prog w)
def cE (prog:Program) (w:World) (ks:List Int):Int:=tupleKeyHash (intKind prog w) ks
def aX (es:Array (Int × Value)) (ep:Nat) (t:SetTable):Obj:={ cls := .type "set",dict:=none,data := .set es ep t }
def ElT (prog:Program) (w:World) (h:Heap) (e:Int × Value) (ks:List Int):Prop:=∃ b,e=(cE prog w ks,.ref b)/\TK prog w h ks b
theorem nL (d:Nat) {v:Value} (h:carriedByValue v=true):ofAClassStatement d v=pure false:=by
 cases v with
 | ref a=>simp [carriedByValue] at h
 | _=>cases d <;> rfl
theorem ip {ks:List Int} {b:Addr} {Q:Bool->Shared->Prop} (hk:TK prog w s.heap ks b) (h:Q false s):wpAny (model prog w) A (ofAClassStatement 8 (.ref b)) Q E s:=by
 have hT:=hk.typeIs
 obtain ⟨o,items,n,ho,_,hd,hi⟩:=hk
 unfold ofAClassStatement
 refine wpAny_bind (wpAny_typeOf hT ?_)
 dsimp only
 rw [if_pos (by decide)]
 refine wpAny_bind (wpAny_pure ?_)
 simp only [Ca,A8,if_false]
 refine wpAny_bind (wpAny_seqItems ho hd ?_)
 dsimp only
 refine wpAny_bind ?_
 rw [<- FY]
 refine wpAny_forIn_list _ (fun rest r s'=>r.1=none/\s'=s/\∀ v ∈ rest,carriedByValue v=true) _ ?_ ?_ _ _ ⟨rfl,rfl,hi.byValue⟩
 ·rintro v rest r s' ⟨hr,rfl,hall⟩
  rw [nL _ (hall v Bg)]
  refine wpAny_bind (wpAny_pure ?_)
  simp only [A8,if_false]
  exact wpAny_pure ⟨rfl,rfl,fun u hu'=>hall u (Bh _ hu')⟩
 ·rintro ⟨r1,r2⟩ s' ⟨hr,rfl,_⟩
  simp only at hr
  subst hr
  exact wpAny_pure h
theorem zx {ks:List Int} {b:Addr} {vs:List Value} {Q:Bool->Shared->Prop} (hk:TK prog w s.heap ks b) (hv:∀ v ∈ vs,∃ ks' b',v = .ref b'/\TK prog w s.heap ks' b') (h:Q false s) :
  wpAny (model prog w) A (searchCouldBeSeen (.ref b) vs) Q E s:=by
 unfold searchCouldBeSeen
 refine wpAny_bind ?_
 refine wpAny_forIn_list _ (fun rest r s'=>r.1=none/\s'=s/\∀ v ∈ rest,∃ ks' b',v = .ref b'/\TK prog w s.heap ks' b') _ ?_ ?_ _ _ ⟨rfl,rfl,hv⟩
 ·rintro v rest r s' ⟨hr,rfl,hall⟩
  obtain ⟨ks',b',rfl,hk'⟩:=hall v Bg
  have go:∀ u ∈ rest,∃ ks' b',u = .ref b'/\TK prog w s'.heap ks' b':=fun u hu'=>hall u (Bh _ hu')
  dsimp only
  split
  ·exact wpAny_pure ⟨rfl,rfl,go⟩
  ·refine wpAny_bind (wpAny_eqIsQuiet_tuple hk ?_)
   simp only [Ca,A8,if_false]
   refine wpAny_bind (wpAny_eqIsQuiet_tuple hk' ?_)
   simp only [Ca,A8,if_false]
   refine wpAny_bind (ip hk ?_)
   simp only [A8,if_false]
   refine wpAny_bind (ip hk' ?_)
   simp only [A8,if_false]
   exact wpAny_pure ⟨rfl,rfl,go⟩
 ·rintro ⟨r1,r2⟩ s' ⟨hr,rfl,_⟩
  simp only at hr
  subst hr
  exact wpAny_pure h
theorem xA {m:Nat} (h:Msk m):(m % 2 == 0)=false:=by rcases h with rfl | rfl | rfl | rfl <;> rfl
theorem bO {a:Addr} {es:Array (Int × Value)} {ep:Nat} {t:SetTable} {Q:(Array (Int × Value) × Nat × SetTable)->Shared->Prop} (ho:s.heap.get? a=some (aX es ep t)) (T:Tab t (es.map (·.1))) (h:Q (es,ep,t) s) :
  wpAny (model prog w) A (setState a) Q E s:=wpAny_setState_of ho rfl (by have:=T.fits; rwa [BD] at this) h
theorem qG (es:Array (Int × Value)) (i:Nat) (e:Int × Value) (h:es[i]? = some e):(es.map (·.1))[i]? = some e.1:=by rw [FX,h]; rfl
theorem Way.split {oc:Nat->Prop} {mask k:Nat} {p r:Probe} (h:Way oc mask k p r):∀ {k':Nat} {r':Probe},Way oc mask k' p r'->k<=k'->Way oc mask (k' - k) r r':=by
 induction h with
 | here p=>intro k' r' h2 _; exact h2
 | @step n p q a _ ih =>
  intro k' r' h2 l
  cases h2 with
  | here=>omega
  | @step m _ _ _ h2=>rw [show m + 1 - (n + 1)=m - n by omega]; exact ih h2 (by omega)
theorem qH {a b:Addr} {es:Array (Int × Value)} {ep:Nat} {t:SetTable} {ks:List Int} {Q:SetFound->Shared->Prop} (hu:A.units < cLine) (ho:s.heap.get? a=some (aX es ep t)) (T:Tab t (es.map (·.1)))
    (els:∀ e ∈ es,∃ ks',ElT prog w s.heap e ks') (hk:TK prog w s.heap ks b) {q:Probe} (he:¬ occ t q.j) :
    ∀ (fuel n:Nat) (st:Option Probe) (p:Probe),st.getD (start t.mask (cE prog w ks))=p->Way (occ t) t.mask n p q->n < fuel->n < 10 * turns t.mask->p.dummy=none →
      ((∃ (k:Nat) (r:Probe) (i:Nat) (e:Int × Value),Way (occ t) t.mask k p r/\t.place[i]? = some r.j/\es[i]? = some e/\ElT prog w s.heap e ks)->Q (.there none) s) →
      ((¬ ∃ (k:Nat) (r:Probe) (i:Nat) (e:Int × Value),Way (occ t) t.mask k p r/\t.place[i]? = some r.j/\es[i]? = some e/\ElT prog w s.heap e ks)->Q (.free q.j false) s) →
      wpAny (model prog w) A (setSearchFrom a (.ref b) (cE prog w ks) true fuel st) Q E s:=by
  intro fuel
  induction fuel with
  | zero=>intro n st p _ _ h; omega
  | succ fuel ih =>
    intro n st p hst W hn hn2 hd hit mis
    unfold setSearchFrom
    refine wpAny_bind (bO ho T ?_)
    dsimp only
    rw [show t.gaveWay=false from xA T.msk]
    simp only [A8,if_false]
    rw [show st.getD (t.probeStart (cE prog w ks))=p from hst]
    rcases oV T (H:=fun i=>(es[i]?.map (·.1)).getD 0) (h:=cE prog w ks) W he hn2 hd with ⟨g,no⟩ | ⟨k,r,i,k1,w1,e1,h1,g,w2,d2,no⟩
    · erw [g]
      dsimp only
      refine wpAny_pure (mis ?_)
      rintro ⟨k,r,i,e,wr,er,ee,eb,rfl,_⟩
      refine no k r i wr er ?_
      show (es[i]?.map (·.1)).getD 0=_
      rw [ee]
      rfl
    · erw [g]
      dsimp only
      have hi:i < es.size:=by have:=eM e1; rw [T.size,BD] at this; exact this
      have ee:es[i]? = some es[i]:=Be hi
      obtain ⟨ks',b',eq,hk'⟩:=els es[i] (Gm hi)
      rw [eq] at ee
      have hh:cE prog w ks'=cE prog w ks:=by
        have h1':(es[i]?.map (·.1)).getD 0=cE prog w ks:=h1
        rw [ee] at h1'
        exact h1'
      have tail:wpAny (model prog w) A (do
          let equal ← holding [Value.ref b'] (eqBool (.ref b') (.ref b))
          let (es',_,t') ← setState a
          if (true && equal)=true then return .there none
          let some same:=t'.sameMemory t.moves t.mask | unsupported "set.changed-during-lookup:is-the-new-block-at-the-old-address"
          let still ← match (if same then t'.slot r.j else .empty) with
            | .live i'=>match es'[i']? with
              | some (_,y')=>do pure (if ← isSame y' (.ref b') then some i' else none)
              | none=>pure none
            | _=>pure none
          match still with
          | none=>rule "set.search.anew"; setSearchFrom a (.ref b) (cE prog w ks) true fuel none
          | some i'=>if equal then return .there (some i') else setSearchFrom a (.ref b) (cE prog w ks) true fuel (some (adv t.mask r))) Q E s:=by
        refine wpAny_bind (wpAny_holding (wpAny_eqBool_tuple hu hk' hk ?_))
        refine wpAny_bind (bO ho T ?_)
        dsimp only
        by_cases hks:ks'=ks
        · subst hks
          rw [decide_eq_true rfl]
          simp only [Bool.and_self,if_true]
          exact wpAny_pure (hit ⟨k,r,i,_,w1,e1,ee,b',rfl,hk'⟩)
        · rw [decide_eq_false hks]
          simp only [EV,A8,if_false]
          rw [show t.sameMemory t.moves t.mask=some true by unfold SetTable.sameMemory; simp]
          dsimp only
          simp only [if_true]
          rw [iT T.rise e1]
          dsimp only
          rw [ee]
          dsimp only
          refine wpAny_bind (wpAny_isSame_ref_self (wpAny_bind (wpAny_pure ?_)))
          simp only [if_true]
          refine ih (n - k - 1) _ _ rfl w2 (by omega) (by omega) d2 (fun x=>hit ?_) fun x=>mis fun y=>x ?_
          · obtain ⟨k',r',i',e',a1,a2,a3,a4⟩:=x
            obtain ⟨k'',w''⟩:=w1.trans (.step ⟨i,e1⟩ a1)
            exact ⟨k'',r',i',e',w'',a2,a3,a4⟩
          · obtain ⟨k',r',i',e',a1,a2,a3,a4⟩:=y
            have hx:(es[i']?.map (·.1)).getD 0=cE prog w ks:=by
              obtain ⟨bb,rfl,_⟩:=a4
              rw [a3]; rfl
            by_cases lt:k' < k
            · exact absurd hx (no k' r' i' lt a1 a2)
            · have w3:=w1.split a1 (by omega)
              cases hd3:k' - k with
              | zero =>
                rw [hd3] at w3
                cases w3
                obtain rfl:i=i':=(below_at T.rise e1).symm.trans (below_at T.rise a2)
                obtain ⟨bb,rfl,hbb⟩:=a4
                rw [ee] at a3
                injection a3 with a3
                injection a3 with a31 a32
                injection a32 with a32
                subst a32
                exact absurd (hk'.inj hbb) hks
              | succ m =>
                rw [hd3] at w3
                cases w3 with
                | step _ w3=>exact ⟨m,r',i',e',w3,a2,a3,a4⟩
      cases hl:t.led with
      | true =>
        simp only [Ca,A8,if_false]
        rw [ee]
        exact tail
      | false =>
        simp only [FL,if_true]
        refine wpAny_bind (zx hk (fun v hv => ?_) ?_)
        · obtain ⟨e',he',rfl⟩:=Bc.mp hv
          obtain ⟨ks2,b2,e2,hk2⟩:=els e' (Array.mem_of_mem_filter (Bq.mp he'))
          exact ⟨ks2,b2,by rw [e2],hk2⟩
        · simp only [A8,if_false]
          rw [ee]
          exact tail
end
open PySem PySem.SetTable PyProof.Rows
section
variable {prog:Program} {w:World} {A:Around} {E:Value->Shared->Prop} {s:Shared}
def dB (w:World) (h:Heap) (a:Addr) (es:Array (Int × Value)):Prop :=
 ∃ ep t,h.get? a=some (aX es ep t)/\Tab t (es.map (·.1))/\es.size * 5 < t.mask * 3/\t.led = !w.params.followText "set-order" /\ t.plain=true
theorem dB.at {h h':Heap} {a:Addr} {es:Array (Int × Value)} (x:dB w h a es) (e:∀ o,h.get? a=some o->h'.get? a=some o):dB w h' a es :=
 let ⟨ep,t,ho,r⟩:=x; ⟨ep,t,e _ ho,r⟩
theorem oY {m n:Nat} (hm:Msk m) (h1:n * 5 < m * 3) (h2:(n + 1) * 5 ≥ m * 3) (h3:n < 300):Msk (sizeAbove (grown (n + 1)) - 1)/\n + 1<=sizeAbove (grown (n + 1)) - 1/\(n + 1) * 5 < (sizeAbove (grown (n + 1)) - 1) * 3/\sizeAbove (grown (n + 1))<=512:=by
 have c:n=4\/n=18\/n=76:=by
  rcases hm with rfl | rfl | rfl | rfl <;> omega
 unfold Msk
 rcases c with rfl | rfl | rfl <;> decide
theorem my:512<=sizeLine:=by rw [sizeLine_eq]; omega
theorem iq {a:Addr} {es es':Array (Int × Value)} {ep:Nat} {t t':SetTable} {Q:Unit->Shared->Prop} (ho:s.heap.get? a=some (aX es ep t)) (hz:es'.size<=512)
  (h:∀ h',Heap.SameBut a s.heap h'->h'.get? a=some (aX es' (ep + 1) t')->Q () { s with heap:=h' }):wpAny (model prog w) A (storeSet a es' t') Q E s:=by
 refine wpAny_storeSet_of (o:=aX es ep t) ho rfl ?_ (BF hz my)
 refine h _ (DK s.heap a _) ?_
 have:=Bv (Obj.putSet es' t') ho (by rw [putSet_of es' t' (o:=aX es ep t) rfl]; rfl)
 rw [putSet_of es' t' (o:=aX es ep t) rfl] at this
 exact this
theorem Tab.tooFull {t:SetTable} {hs:Array Int} (T:Tab t hs):t.tooFull=decide (hs.size * 5 ≥ t.mask * 3):=by
 unfold SetTable.tooFull; rw [T.fill]
theorem mz {t:SetTable} {es:Array (Int × Value)} (T:Tab t (es.map (·.1))) {n:Nat} (hn:es.size=n + 1) (h1:n * 5 < t.mask * 3) (h2:(n + 1) * 5 ≥ t.mask * 3) (h3:n < 300) :
  ∃ t' order,t.relaid (es.map (·.1)) (grown (n + 1))=some (t',order)/\order.toList.Perm (List.range es.size)/\Tab t' ((order.filterMap (es[·]?)).map (·.1))/\(order.filterMap (es[·]?)).toList.Perm es.toList/\t'.led=t.led/\t'.plain=t.plain/\(n + 1) * 5 < t'.mask * 3:=by
 obtain ⟨k1,k2,k3,k4⟩:=oY T.msk h1 h2 h3
 obtain ⟨t',order,e,pm,T',pe,l,p,m⟩:=xx k1 t.finger (t.movedTo (sizeAbove (grown (n + 1)) - 1)) t.led t.plain es (by omega)
 exact ⟨t',order,e,pm,T',pe,l,p,by rw [m]; exact k3⟩
theorem qI {ks:List Int} {b:Addr} {Q:Bool->Shared->Prop} (hk:TK prog w s.heap ks b) (h:Q true s):wpAny (model prog w) A (hashByValue 8 (.ref b)) Q E s:=by
 have hT:=hk.typeIs
 obtain ⟨o,items,n,ho,_,hd,hi⟩:=hk
 unfold hashByValue
 refine wpAny_bind (wpAny_specialOf hT F.slot_tuple_hash.lookup ?_)
 dsimp only
 refine wpAny_bind (wpAny_seqItems ho hd ?_)
 refine wpAny_bind ?_
 show wpAny _ _ (forIn items _ _) _ _ s
 rw [<- FY]
 have hall0:∀ v ∈ items.toList,∃ k t,v = .int k t:=by
  clear hd ho
  generalize items.toList=l at hi
  induction hi with
  | nil=>intro v hv; cases hv
  | cons h1 _ ih =>
   intro v hv
   rcases A6.mp hv with rfl | hv
   ·obtain ⟨t,e⟩:=Eb h1; exact ⟨_,t,e⟩
   ·exact ih v hv
 refine wpAny_forIn_list _ (fun rest r s'=>r.1=none/\s'=s/\∀ v ∈ rest,∃ k t,v=Value.int k t) _ ?_ ?_ _ _ ⟨rfl,rfl,hall0⟩
 ·rintro v rest r s' ⟨hr,rfl,hall⟩
  obtain ⟨k,t,rfl⟩:=hall v Bg
  rw [show hashByValue 7 (.int k t)=pure true from rfl]
  refine wpAny_bind (wpAny_pure ?_)
  simp only [Ca,A8,if_false]
  exact wpAny_pure ⟨rfl,rfl,fun u hu'=>hall u (Bh _ hu')⟩
 ·rintro ⟨r1,r2⟩ s' ⟨hr,rfl,_⟩
  simp only at hr
  subst hr
  exact wpAny_pure h
theorem xB {a b:Addr} {es:Array (Int × Value)} {ks:List Int} {Q:Bool->Shared->Prop} (hu:A.units < cLine) (I:dB w s.heap a es) (els:∀ e ∈ es,∃ ks',ElT prog w s.heap e ks') (hk:TK prog w s.heap ks b) (hz:es.size < 300)
  (hin:(∃ e ∈ es,ElT prog w s.heap e ks)->Q false s)
  (hnew:(¬ ∃ e ∈ es,ElT prog w s.heap e ks)->∀ h' es',Heap.SameBut a s.heap h'->dB w h' a es'->es'.toList.Perm ((cE prog w ks,.ref b) :: es.toList)->Q true { s with heap:=h' }) :
  wpAny (model prog w) A (setAddHashed a (.ref b) (cE prog w ks)) Q E s:=by
 obtain ⟨ep,t,ho,T,rm,hl,hp⟩:=I
 unfold setAddHashed setAddHashedIn
 refine wpAny_holding (wpAny_bind (bO ho T ?_))
 dsimp only
 rw [show byScan (.ref b) es=false from rfl]
 simp only [A8,if_false]
 obtain ⟨n,q,hn,W,he,hq,hd⟩:=T.ends (cE prog w ks)
 have hn':n < 100000:=by
  have:t.mask<=511:=by rcases T.msk with e | e | e | e <;> omega
  unfold turns at hn
  omega
 unfold setSearch
 refine wpAny_bind (qH hu ho T els hk he 100000 n none _ rfl W hn' hn rfl (fun x => ?_) fun x => ?_)
 ·obtain ⟨k,r,i,e,_,_,ee,el⟩:=x
  exact wpAny_pure (hin ⟨e,Array.mem_of_getElem? ee,el⟩)
 ·have nx:¬ ∃ e ∈ es,ElT prog w s.heap e ks:=by
   rintro ⟨e,he',el⟩
   obtain ⟨i,hi,ei⟩:=Array.getElem_of_mem he'
   have ee:es[i]? = some e:=by rw [Be hi,ei]
   have hpl:i < t.place.size:=by rw [T.size,BD]; exact hi
   obtain ⟨bb,rfl,hbb⟩:=el
   obtain ⟨k,r,w1,er⟩:=T.reach i _ _ (Be hpl) (qG es i _ ee)
   exact x ⟨k,r,i,_,w1,by rw [er]; exact Be hpl,ee,bb,rfl,hbb⟩
  dsimp only
  refine wpAny_bind (bO ho T ?_)
  dsimp only
  rw [T.vm]
  dsimp only
  rw [hp]
  simp only [if_true]
  have hz':(es.map (·.1)).size + 1<=t.mask:=by
   rw [BD]; have:=T.fit; rw [BD] at this
   rcases T.msk with e | e | e | e <;> rw [e] at rm ⊢ <;> omega
  have T':=T.put W he hq hz'
  rw [<- fv es (below t.place q.j) (cE prog w ks,Value.ref b) (·.1),hp] at T'
  have sz:(insertAt es (below t.place q.j) (cE prog w ks,Value.ref b)).size=es.size + 1:=cD _ _ _
  refine wpAny_bind (qI hk ?_)
  simp only [if_true]
  refine wpAny_bind (iq ho (by rw [sz]; omega) fun h1 sb1 ho1 => ?_)
  have pm1:=insertAt_perm es (below t.place q.j) (cE prog w ks,Value.ref b)
  rw [T'.tooFull,BD,sz]
  by_cases full:(es.size + 1) * 5 ≥ t.mask * 3
  ·rw [if_pos (by simpa using full)]
   unfold setRelay
   obtain ⟨t2,order,e2,pm2,T2,pe2,l2,p2,rm2⟩:=mz T' sz (n:=es.size) (by simpa using rm) full hz
   obtain ⟨_,_,_,sa⟩:=oY T.msk rm full hz
   refine wpAny_bind (wpAny_bind (bO (s:={ s with heap:=h1 }) ho1 T' ?_))
   dsimp only
   rw [if_neg (Nat.not_lt.mpr (BF sa my))]
   rw [e2]
   have z2:(order.filterMap ((insertAt es (below t.place q.j) (cE prog w ks,Value.ref b))[·]?)).size=es.size + 1:=by
    rw [<- AW,pe2.length_eq,AW,sz]
   refine wpAny_bind ?_
   show wpAny _ _ (if ((order.filterMap ((insertAt es (below t.place q.j) (cE prog w ks,Value.ref b))[·]?)).size != (insertAt es (below t.place q.j) (cE prog w ks,Value.ref b)).size)=true then _ else _) _ _ _
   rw [if_neg (by rw [z2,sz]; simp)]
   refine wpAny_pure ?_
   dsimp only
   refine iq (s:={ s with heap:=h1 }) ho1 (by rw [z2]; omega) fun h2 sb2 ho2 => ?_
   refine wpAny_pure (hnew nx h2 _ (sb1.trans sb2) ⟨_,_,ho2,T2,by rw [z2]; exact rm2,by rw [l2]; exact hl,by rw [p2]⟩ (pe2.trans pm1))
  ·rw [if_neg (by simpa using full)]
   refine wpAny_pure (hnew nx h1 _ sb1 ⟨_,_,ho1,T',?_,hl,rfl⟩ pm1)
   rw [sz]
   exact Dn full
end
open PySem PySem.SetTable PyProof.Rows
section
variable {prog:Program} {w:World} {A:Around} {E:Value->Shared->Prop} {s:Shared}
def ElI (e:Int × Value) (k:Int):Prop:=∃ t,e=(hashInt k,Value.int k t)
theorem tP {es:Array (Int × Value)} (els:∀ e ∈ es,∃ k,ElI e k):ElemsOf (intKind prog w) es.toList:=by
 intro e he
 obtain ⟨k,t,rfl⟩:=els e (Bq.mp he)
 exact ⟨⟨k,intKind_is _ _ _ _,rfl⟩,rfl⟩
theorem tQ {t:SetTable} {es:Array (Int × Value)} (T:Tab t (es.map (·.1))) (h:Int) (x:Value) {n:Nat} {q:Probe} (hn:n < 10 * turns t.mask) (W:Way (occ t) t.mask n (start t.mask h) q) (he:¬ occ t q.j) (hq:q.j<=t.mask) (hz:es.size + 1<=t.mask) :
  layNew t es h x=(insertAt es (below t.place q.j) (h,x),{ t with place:=insertAt t.place (below t.place q.j) q.j },false,false):=by
 have hf:t.freeSlot h=some (q.j,false):=by
  unfold SetTable.freeSlot
  rcases oV T (H:=fun _=>h + 1) (h:=h) W he hn rfl with ⟨g,_⟩ | ⟨_,_,i,_,_,_,h1,_⟩
  ·rw [show t.probe (fun _=>h + 1) h (t.probeStart h)=some (.empty q.j none) from g]
   rfl
  ·have:h + 1=h:=h1
   omega
 have T':=T.put W he hq (by rw [BD]; exact hz)
 rw [<- fv es (below t.place q.j) (h,x) (·.1)] at T'
 have ft:=T'.fits
 rw [BD] at ft
 unfold layNew
 rw [hf]
 dsimp only
 rw [T.vm]
 dsimp only
 unfold SetTable.orStandIn
 rw [if_pos ft,ft]
 rfl
theorem oZ {t:SetTable} {es:Array (Int × Value)} {n:Nat} {t':SetTable} {order:Array Nat} (e:t.relaid (es.map (·.1)) n=some (t',order)) (pm:order.toList.Perm (List.range es.size)) (T':Tab t' ((order.filterMap (es[·]?)).map (·.1))) :
  relayAll t es n=(order.filterMap (es[·]?),t',false):=by
 unfold relayAll
 rw [e]
 dsimp only
 have c:coversAll order es.size=true:=by unfold coversAll; rw [List.isPerm_iff]; exact pm
 have f:=T'.fits
 rw [BD] at f
 rw [c,f]
 rfl
theorem add_int {a:Addr} {es:Array (Int × Value)} {k:Int} {tok:Tok} {Q:Bool->Shared->Prop} (I:dB w s.heap a es) (els:∀ e ∈ es,∃ k',ElI e k') (hz:es.size < 300)
  (hin:(∃ e ∈ es,ElI e k)->Q false s)
  (hnew:(¬ ∃ e ∈ es,ElI e k)->∀ h' es',Heap.SameBut a s.heap h'->dB w h' a es'->es'.toList.Perm ((hashInt k,.int k tok) :: es.toList)->Q true { s with heap:=h' }) :
  wpAny (model prog w) A (setAddHashed a (.int k tok) (hashInt k)) Q E s:=by
 obtain ⟨ep,t,ho,T,rm,hl,hp⟩:=I
 have hel:=tP (prog:=prog) (w:=w) els
 have hb:es.size < scanBound:=by unfold scanBound; omega
 have hf:t.fits es.size=true:=by have:=T.fits; rwa [BD] at this
 unfold setAddHashed setAddHashedIn
 refine wpAny_holding (wpAny_bind (bO ho T ?_))
 dsimp only
 rw [byScan_of (knd:=intKind prog w) rfl hb hel]
 simp only [↓reduceIte]
 unfold setAddByScan
 refine wpAny_bind ?_
 refine wpAny_bind (wpAny_rule ?_)
 refine wpAny_bind (wpAny_setScan_of (knd:=intKind prog w) (k:=k) (intKind_is _ _ _ _) ho rfl hf hel ?_)
 cases hr:List.findIdx? (fun e=>(intKind prog w).is k e.2) es.toList with
 | some j =>
  dsimp only
  obtain ⟨hj,hpj,_⟩:=List.findIdx?_eq_some_iff_getElem.mp hr
  refine wpAny_pure (wpAny_pure (hin ⟨es.toList[j],Bq.mp (Dl hj),?_⟩))
  obtain ⟨k',t',e'⟩:=els es.toList[j] (Bq.mp (Dl hj))
  obtain ⟨u,e2⟩:=Eb hpj
  rw [e'] at e2
  cases e2
  exact ⟨_,e'⟩
 | none =>
  dsimp only
  have nx:¬ ∃ e ∈ es,ElI e k:=by
   rintro ⟨e,he,t',rfl⟩
   have:=List.findIdx?_eq_none_iff.mp hr _ (Bq.mpr he)
   rw [intKind_is] at this
   cases this
  have hgw:∀ (b:Bool) {s₁:Shared} {Q':Unit->Shared->Prop},Q' () s₁->wpAny (model prog w) A (match b with | true=>rule "set.scan.the-table-gave-way" | false=>pure ()) Q' E s₁ :=
   fun b s₁ Q' hq=>by cases b <;> first | exact wpAny_pure hq | exact wpAny_rule hq
  obtain ⟨n,q,hn,W,he,hq,hd⟩:=T.ends (hashInt k)
  have hz':es.size + 1<=t.mask:=by
   rcases T.msk with e | e | e | e <;> rw [e] at rm ⊢ <;> omega
  rw [tQ T (hashInt k) (.int k tok) hn W he hq hz']
  dsimp only
  refine wpAny_bind (wpAny_pure (a:=()) ?_)
  have T':=T.put W he hq (by rw [BD]; exact hz')
  rw [<- fv es (below t.place q.j) (hashInt k,Value.int k tok) (·.1),hp] at T'
  rw [hp]
  simp only [↓reduceIte]
  refine wpAny_bind ?_
  rw [show hashByValue 8 (.int k tok)=pure true from rfl]
  refine wpAny_pure ?_
  simp only [↓reduceIte]
  have sz:(insertAt es (below t.place q.j) (hashInt k,Value.int k tok)).size=es.size + 1:=cD _ _ _
  refine wpAny_bind (iq ho (by rw [sz]; omega) fun h1 sb1 ho1 => ?_)
  have pm1:=insertAt_perm es (below t.place q.j) (hashInt k,Value.int k tok)
  rw [T'.tooFull,BD,sz]
  by_cases full:(es.size + 1) * 5 ≥ t.mask * 3
  ·rw [if_pos (by simpa using full)]
   obtain ⟨t2,order,e2,pm2,T2,pe2,l2,p2,rm2⟩:=mz T' sz (n:=es.size) (by simpa using rm) full hz
   rw [oZ e2 pm2 T2]
   dsimp only
   have z2:(order.filterMap ((insertAt es (below t.place q.j) (hashInt k,Value.int k tok))[·]?)).size=es.size + 1:=by
    rw [<- AW,pe2.length_eq,AW,sz]
   refine wpAny_bind (wpAny_pure (a:=()) ?_)
   refine wpAny_bind (iq (s:={ s with heap:=h1 }) ho1 (by rw [z2]; omega) fun h2 sb2 ho2 => ?_)
   refine wpAny_pure (wpAny_pure (hnew nx h2 _ (sb1.trans sb2) ⟨_,_,ho2,T2,by rw [z2]; exact rm2,by rw [l2]; exact hl,by rw [p2]⟩ (pe2.trans pm1)))
  ·rw [if_neg (by simpa using full)]
   refine wpAny_pure (wpAny_pure (hnew nx h1 _ sb1 ⟨_,_,ho1,T',?_,hl,rfl⟩ pm1))
   rw [sz]
   exact Dn full
end
open PySem PySem.SetTable PyProof.Rows PySem.Spec
def TS (h h':Heap):Prop:=∀ b o,o.cls = .type "tuple" -> h.get? b=some o->h'.get? b=some o
structure Kd (prog:Program) (w:World) (κ : Type) where
 El:Heap->Value -> κ -> Prop
 hash : κ -> Int
 room:Around->Prop
 keeps:∀ {h h':Heap} {v:Value} {k : κ},El h v k->TS h h'->El h' v k
 inj:∀ {h:Heap} {v:Value} {k k' : κ},El h v k->El h v k'->k=k'
 add:∀ {A:Around} {E:Value->Shared->Prop} {s:Shared} {a:Addr} {es:Array (Int × Value)} {v:Value} {k : κ} {Q:Bool->Shared->Prop},room A->dB w s.heap a es->(∀ e ∈ es,∃ k',e.1=hash k'/\El s.heap e.2 k')->El s.heap v k->es.size < 300 →
  ((∃ e ∈ es,El s.heap e.2 k)->∀ tk,s.toks<=tk->Q false { s with toks:=tk }) →
  ((¬ ∃ e ∈ es,El s.heap e.2 k)->∀ h' es' tk,s.toks<=tk->Heap.SameBut a s.heap h'->dB w h' a es'->es'.toList.Perm ((hash k,v) :: es.toList)->Q true { s with heap:=h',toks:=tk }) →
  wpAny (model prog w) A (setAdd a v) Q E s
theorem TK.keep {prog:Program} {w:World} {h h':Heap} {ks:List Int} {b:Addr} (x:TK prog w h ks b) (t:TS h h'):TK prog w h' ks b :=
 let ⟨o,items,n,ho,hc,r⟩:=x; ⟨o,items,n,t b o hc ho,hc,r⟩
def jq (prog:Program) (w:World):Kd prog w (List Int) where
 El:=fun h v ks=>∃ b,v = .ref b/\TK prog w h ks b
 hash:=cE prog w
 room:=fun A=>A.units < cLine
 keeps:=fun ⟨b,e,x⟩ t=>⟨b,e,x.keep t⟩
 inj:=fun ⟨b,e,x⟩ ⟨b',e',x'⟩=>by
  rw [e] at e'; injection e' with e'; subst e'; exact x.inj x'
 add:=by
  intro A E s a es v k Q hu I els hv hz hin hnew
  obtain ⟨b,rfl,hk⟩:=hv
  unfold setAdd
  refine wpAny_holding (wpAny_bind (wpAny_pyHash_tuple hu hk ?_))
  have els':∀ e ∈ es,∃ ks',ElT prog w s.heap e ks':=fun e he=>by
   obtain ⟨k',e1,b',e2,x⟩:=els e he
   exact ⟨k',b',FU e1 e2,x⟩
  have conv:∀ e ∈ es,(ElT prog w s.heap e k ↔ ∃ b,e.2 = .ref b/\TK prog w s.heap k b):=fun e he=>by
   constructor
   ·rintro ⟨b',rfl,x⟩; exact ⟨b',rfl,x⟩
   ·rintro ⟨b',e2,x⟩
    obtain ⟨k',e1,b2,e3,x2⟩:=els e he
    rw [e2] at e3; injection e3 with e3; subst e3
    obtain rfl:=x.inj x2
    exact ⟨b',FU e1 e2,x⟩
  refine xB (s:={ s with toks:=s.toks + (k.length + 1) }) hu I els' hk hz (fun x=>hin ?_ _ (CH _ _)) fun x h' es' sb I' pm=>hnew ?_ h' es' _ (CH _ _) sb I' pm
  ·obtain ⟨e,he,x⟩:=x; exact ⟨e,he,(conv e he).mp x⟩
  ·rintro ⟨e,he,y⟩; exact x ⟨e,he,(conv e he).mpr y⟩
def rV (prog:Program) (w:World):Kd prog w Int where
 El:=fun _ v k=>∃ t,v = .int k t
 hash:=hashInt
 room:=fun _=>True
 keeps:=fun x _=>x
 inj:=fun ⟨t,e⟩ ⟨t',e'⟩=>by rw [e] at e'; injection e'
 add:=by
  intro A E s a es v k Q _ I els hv hz hin hnew
  obtain ⟨t,rfl⟩:=hv
  unfold setAdd
  refine wpAny_holding (wpAny_bind ((intKind prog w).pyHash (k:=k) (intKind_is _ _ _ _) ?_))
  have els':∀ e ∈ es,∃ k',ElI e k':=fun e he=>by
   obtain ⟨k',e1,t',e2⟩:=els e he
   exact ⟨k',t',FU e1 e2⟩
  have conv:∀ e ∈ es,(ElI e k ↔ ∃ t,e.2=Value.int k t):=fun e he=>by
   constructor
   ·rintro ⟨t',rfl⟩; exact ⟨t',rfl⟩
   ·rintro ⟨t',e2⟩
    obtain ⟨k',e1,t2,e3⟩:=els e he
    rw [e2] at e3; injection e3 with e3 e4; subst e3
    exact ⟨t',FU e1 e2⟩
  refine add_int (s:={ s with toks:=s.toks + 1 }) I els' hz (fun x=>hin ?_ _ (EC _)) fun x h' es' sb I' pm=>hnew ?_ h' es' _ (EC _) sb I' pm
  ·obtain ⟨e,he,x⟩:=x; exact ⟨e,he,(conv e he).mp x⟩
  ·rintro ⟨e,he,y⟩; exact x ⟨e,he,(conv e he).mpr y⟩
section
variable {prog:Program} {w:World} {κ : Type} (kd:Kd prog w κ)
structure Good (h:Heap) (es:Array (Int × Value)) (l:List κ):Prop where
 el:∀ e ∈ es,∃ k,k ∈ l/\e.1=kd.hash k/\kd.El h e.2 k
 all:∀ k ∈ l,∃ e ∈ es,kd.El h e.2 k
 dis:es.toList.Pairwise (fun e e'=>∀ k,kd.El h e.2 k->¬ kd.El h e'.2 k)
 len:es.size<=l.length
variable {kd}
theorem Good.keeps {h h':Heap} {es:Array (Int × Value)} {l:List κ} (G:Good kd h es l) (t:TS h h'):Good kd h' es l:=by
 refine ⟨fun e he => ?_,fun k hk => ?_,?_,G.len⟩
 ·obtain ⟨k,a,b,c⟩:=G.el e he; exact ⟨k,a,b,kd.keeps c t⟩
 ·obtain ⟨e,a,b⟩:=G.all k hk; exact ⟨e,a,kd.keeps b t⟩
 ·refine DU (fun {e e'} he he' x k y z => ?_) G.dis
  obtain ⟨k1,_,_,c1⟩:=G.el e (Bq.mp he)
  obtain ⟨k2,_,_,c2⟩:=G.el e' (Bq.mp he')
  obtain rfl:=kd.inj y (kd.keeps c1 t)
  obtain rfl:=kd.inj z (kd.keeps c2 t)
  exact x _ c1 c2
theorem Good.nil (h:Heap):Good kd h #[] []:=⟨fun e he=>(by simp at he),fun k hk=>(by cases hk),(by simp),AS _⟩
theorem Good.same {h:Heap} {es:Array (Int × Value)} {l:List κ} (G:Good kd h es l) {k : κ} (x:∃ e ∈ es,kd.El h e.2 k):Good kd h es (l ++ [k]):=by
 refine ⟨fun e he => ?_,fun k' hk => ?_,G.dis,by rw [AQ]; have:=G.len; omega⟩
 ·obtain ⟨k,a,b⟩:=G.el e he; exact ⟨k,Bp _ a,b⟩
 ·rcases A2.mp hk with hk | hk
  ·exact G.all k' hk
  ·rw [AV] at hk; subst hk; exact x
theorem Good.more {h:Heap} {es es':Array (Int × Value)} {l:List κ} (G:Good kd h es l) {k : κ} {v:Value} (hv:kd.El h v k) (x:¬ ∃ e ∈ es,kd.El h e.2 k) (pm:es'.toList.Perm ((kd.hash k,v) :: es.toList)):Good kd h es' (l ++ [k]):=by
 have mem:∀ e,e ∈ es' ↔ e=(kd.hash k,v)\/e ∈ es:=fun e=>by
  rw [<- Bq,pm.mem_iff,A6,Bq]
 refine ⟨fun e he => ?_,fun k' hk => ?_,?_,?_⟩
 ·rcases (mem e).mp he with rfl | he
  ·exact ⟨k,Bi _ (AV.mpr rfl),rfl,hv⟩
  ·obtain ⟨k,a,b⟩:=G.el e he; exact ⟨k,Bp _ a,b⟩
 ·rcases A2.mp hk with hk | hk
  ·obtain ⟨e,a,b⟩:=G.all k' hk; exact ⟨e,(mem e).mpr (.inr a),b⟩
  ·rw [AV] at hk; subst hk; exact ⟨_,(mem _).mpr (.inl rfl),hv⟩
 ·rw [pm.pairwise_iff (fun {a b} z k y1 y2=>z k y2 y1)]
  refine List.Pairwise.cons (fun e he k' y1 y2 => ?_) G.dis
  obtain rfl:=kd.inj y1 hv
  exact x ⟨e,Bq.mp he,y2⟩
 ·have:=pm.length_eq
  rw [Bn,AW,AW] at this
  rw [AQ,BV]
  have:=G.len
  omega
end
section
variable {prog:Program} {w:World} {A:Around} {R:Result->Shared->Prop} {I:Addr} {fp:List Addr} {G:Array GenState->Array GenState->Prop} {n:Nat} {P:Nat->Value->Prop} {St:Nat->Shared->Prop} {κ : Type} {kd:Kd prog w κ}
theorem o6 (W:WalksS prog w A.in1 I fp [I] G n P St) (hrm:kd.room A.in1) (hI:∀ i s,St i s->∃ o,s.heap.get? I=some o/\o.cls ≠ .type "tuple") (S:Addr) (hSf:S ∉ fp) (hIf:I ∈ fp) (ks:List κ) (hn:n=ks.length) (hb:n < 300) :
  ∀ (k i:Nat) (s:Shared) (es:Array (Int × Value)),n - i=k->i<=n->St i s->(∀ j v,P j v->∃ q,ks[j]? = some q/\kd.El s.heap v q) →
   dB w s.heap S es->Good kd s.heap es (ks.take i) →
   (∀ s' es',Moved [S,I] G s s'->dB w s'.heap S es'->Good kd s'.heap es' ks->R (.ok (.ret .none)) s') →
   codeAny (model prog w) A (.builtin "set.update.loop" ⟨[.ref S,.ref I],[]⟩) R s:=by
 have hSI:S ≠ I:=fun e=>hSf (e ▸ hIf)
 have ts:∀ i s s',St i s->Moved [I] G s s'->TS s.heap s'.heap:=fun i s s' hst hm b o hc e=>by
  refine hm.heap b o (fun hb => ?_) e
  rw [AV] at hb
  obtain ⟨o',e',c'⟩:=hI i s hst
  rw [hb,e'] at e; cases e; exact c' hc
 intro k
 induction k with
 | zero =>
  intro i s es hk hi hst hv hS hG hR
  have hin:i=n:=by omega
  subst hin
  refine codeAny_builtin Ff ?_
  rw [BA Dj _]
  show wpAny _ A.in1 (pyNext (.ref I) >>= _) _ _ s
  refine wpAny_bind (W.done s _ _ hst fun s' hm => ?_)
  show wpAny _ A.in1 (ret Value.none) _ _ s'
  rw [A7 (by omega)] at hG
  exact wpAny_pure (hR s' es (hm.mono fun b hb=>by rw [AV] at hb; simp [hb]) (hS.at fun o e=>hm.heap S o (by rw [AV]; exact hSI) e) (hG.keeps (ts _ _ _ hst hm)))
 | succ k ih =>
  intro i s es hk hi hst hv hS hG hR
  have hlt:i < n:=by omega
  refine codeAny_builtin Ff ?_
  rw [BA Dj _]
  show wpAny _ A.in1 (pyNext (.ref I) >>= _) _ _ s
  refine wpAny_bind (W.item i s _ _ hlt hst fun v s' hP hst' hm => ?_)
  have t0:=ts _ _ _ hst hm
  obtain ⟨q,eq,hq⟩:=hv i v hP
  have hS':dB w s'.heap S es:=hS.at fun o e=>hm.heap S o (by rw [AV]; exact hSI) e
  have hG':=hG.keeps t0
  have tk:ks.take (i + 1)=ks.take i ++ [q]:=by rw [G3,eq]; rfl
  show wpAny _ A.in1 (holding [v] (setAdd S v) >>= _) _ _ s'
  have hm2:Moved [S,I] G s s':=hm.mono fun b hb=>by rw [AV] at hb; simp [hb]
  refine wpAny_bind (wpAny_holding (kd.add hrm hS' (fun e he => ?_) (kd.keeps hq t0) ?_ (fun x tk' htk => ?_) fun x h' es' tk' htk sb I' pm => ?_))
  ·obtain ⟨k',_,a,b⟩:=hG'.el e he; exact ⟨k',a,b⟩
  ·have:=hG'.len; rw [BL] at this; omega
  ·refine wpAny_pure ⟨plainId_quiet Dj _,ih (i + 1) _ es (by omega) hlt (W.frame _ s' _ _ hst' htk fun b _ o e=>e) (fun j v' p => ?_) hS' (by rw [tk]; exact hG'.same x) fun s'' es'' hm'' a b => ?_⟩
   ·obtain ⟨q',a,b⟩:=hv j v' p; exact ⟨q',a,kd.keeps b t0⟩
   ·exact hR s'' es'' (Hg W.gtrans (hm2.then_heap htk fun b o _ e=>e) hm'') a b
  ·have t1:TS s'.heap h':=fun b o hc e=>by
    rw [sb.2 b (fun hb=>by
     obtain ⟨ep,t,ho,_⟩:=hS'
     rw [hb,ho] at e; cases e; simp [aX] at hc)]
    exact e
   refine wpAny_pure ⟨plainId_quiet Dj _,ih (i + 1) _ es' (by omega) hlt (W.frame _ s' _ _ hst' htk fun b hb o e => ?_) (fun j v' p => ?_) I' (by rw [tk]; exact (hG'.more (kd.keeps hq t0) x pm).keeps t1) fun s'' es'' hm'' a b => ?_⟩
   ·rw [sb.2 b (fun h:b=S=>hSf (h ▸ hb))]; exact e
   ·obtain ⟨q',a,b⟩:=hv j v' p; exact ⟨q',a,kd.keeps (kd.keeps b t0) t1⟩
   ·refine hR s'' es'' (Hg W.gtrans (hm2.then_heap htk fun b o hb e => ?_) hm'') a b
    rw [sb.2 b (fun h:b=S=>hb (by rw [h]; exact Bg))]; exact e
end
section
variable {prog:Program} {w:World} {A:Around} {E:Value->Shared->Prop} {s:Shared}
theorem rW (a:Value) {Q₁:Value->Shared->Prop}
    (h:Q₁ (.ref s.heap.objs.size) { s with heap:=s.heap.push (aX #[] 0 (.fresh 0 0 (!w.params.followText "set-order"))) }) :
    codeAny (model prog w) A (.call (.builtin "set.__new__") ⟨[.type "set",a],[]⟩) (wants Q₁ E) s:=by
  refine codeAny_of_tree ?_
  show wpAny _ A.in1 (do checkBuiltinCall "set.__new__" ⟨[.type "set",a],[]⟩; again (.builtin "set.__new__" ⟨[.type "set",a],[]⟩)) _ _ s
  refine wpAny_bind (wpAny_of_eq (PySem.F.newCall_set_1 a) (wpAny_pure ⟨plainId_quiet GO _,codeAny_builtin F.entry_set_new ?_⟩))
  rw [BA GO _]
  unfold Builtin.«set.__new__» Builtin.Frozenset.newClass
  have hsub:=sub_set_self
  obtain ⟨hp,g,d,tk,os⟩:=s
  dsimp only
  wp_walk
  refine wpAny_askSetting (wpAny_pure ?_)
  dsimp only
  simp only [newObj]
  refine wpAny_bind (wpAny_alloc (wpAny_pure ?_))
  exact wpAny_pure h
theorem tR (led:Bool):Tab (.fresh 0 0 led) #[]:=by
 refine ⟨rfl,fun i j a b e => ?_,rfl,fun i j e => ?_,.inl rfl,Br _,fun i j h e => ?_⟩ <;> (simp [SetTable.fresh] at e)
theorem kh {h:Heap} {a:Addr} (ho:h.get? a=some (aX #[] 0 (.fresh 0 0 (!w.params.followText "set-order")))):dB w h a #[] :=
 ⟨0,_,ho,(by rw [Array.map_empty]; exact tR _),(by show 0 * 5 < 7 * 3; decide),rfl,rfl⟩
theorem sub_tuple_set:isSubtype (.type "tuple") (.type "set")=pure false:=by rw [isSubtype_type]; kernel_rfl
theorem sub_tuple_frozenset:isSubtype (.type "tuple") (.type "frozenset")=pure false:=by rw [isSubtype_type]; kernel_rfl
end
open PySem PySem.SetTable PyProof.Rows PySem.Spec
section
variable {prog:Program} {w:World} {A:Around} {E:Value->Shared->Prop} {s:Shared}
set_option maxHeartbeats 3200000 in
theorem fM {κ : Type} {kd:Kd prog w κ} {l:Addr} {items:Array Value} {ks:List κ} {Q:Value->Shared->Prop}
  (hh:A.handled=none) (hrm:kd.room A.in1.in1.in1) (hl:s.heap.IsTuple l items) (hz:items.size=ks.length) (hi:∀ (i:Nat) v,items[i]? = some v->∃ q,ks[i]? = some q/\kd.El s.heap v q) (hb:items.size < 300)
  (h:∀ (h':Heap) (es:Array (Int × Value)) (tk:Nat),s.toks<=tk->dB w h' s.heap.objs.size es->Good kd h' es ks →
   (∀ b o,s.heap.get? b=some o->h'.get? b=some o)->Q (.ref s.heap.objs.size) { s with heap:=h',toks:=tk }) :
  wpAny (model prog w) A (call (.type "set") [.ref l]) Q E s:=by
 obtain ⟨c,tl,hmro⟩:=B9.mro
 have hmade:=B9.made
 have hsub:=B9.sub
 refine wpAny_call (codeAny_of_tree ?_)
 show wpAny _ _ (callAny (.type "set") _) _ _ _
 refine wpAny_pure ⟨ER _ (by decide +kernel),codeAny_builtin Gn ?_⟩
 rw [FZ (weight_type_call_type "set" [.ref l] []) rfl]
 have h1:=B9.notType
 have h2:=B9.canCreate
 have hct:=Fs (.ref l)
 repeat (any_goals (first | assumption | wp_step))
 have gd:(s.heap.push (aX #[] 0 (.fresh 0 0 (!w.params.followText "set-order")))).objs.size=s.heap.objs.size + 1:=B4 _ _
 refine codeAny_mono (rW (w:=w) (.ref l) (E:=E) (Q₁:=fun obj s₁=>obj = .ref s.heap.objs.size/\s₁={ s with heap:=s.heap.push (aX #[] 0 (.fresh 0 0 (!w.params.followText "set-order"))) }) ⟨rfl,rfl⟩) fun r s₁ hr => ?_
 cases r with
 | error e=>exact hr
 | ok fl =>
  cases fl with
  | ret obj =>
   obtain ⟨rfl,rfl⟩:=hr
   generalize hled:(!w.params.followText "set-order")=led at gd ⊢
   have hS:(s.heap.push (aX #[] 0 (.fresh 0 0 led))).get? s.heap.objs.size=some (aX #[] 0 (.fresh 0 0 led)):=A0 _ rfl
   have hT:Shared.TypeIs { s with heap:=s.heap.push (aX #[] 0 (.fresh 0 0 led)) } (.ref s.heap.objs.size) "set" := ⟨_,hS,rfl⟩
   have hli:=B9.init.lookup
   have hbi:=B9.init.bind (.ref s.heap.objs.size)
   repeat (any_goals (first | assumption | wp_step))
   refine codeAny_mono (codeAny_call_builtin (R:=wants (fun r s₂=>r = .none/\∃ h' es tk,s₂={ s with heap:=h',toks:=tk }/\s.toks<=tk ∧
     dB w h' s.heap.objs.size es/\Good kd h' es ks ∧
     (∀ b o,s.heap.get? b=some o->h'.get? b=some o)) E) B9.init.plain GC (check_set_init_1 hT ?_)) fun r₂ s₂ hr₂ => ?_
   ·obtain ⟨ol,hol,hcl,nl,hdl⟩:=id hl
    obtain ⟨ocls,odict,odata,oslots⟩:=ol
    simp only at hcl hdl
    subst hcl; subst hdl
    have hol':(s.heap.push (aX #[] 0 (.fresh 0 0 led))).get? l=some { cls := .type "tuple",dict:=odict,data := .seq items nl,slots:=oslots }:=AN _ hol
    have hsls:=sub_tuple_set
    have hslf:=sub_tuple_frozenset
    have hne:(Value.type "tuple" == Value.type "dict")=false:=by decide
    have hl1:(s.heap.push (aX #[] 0 (.fresh 0 0 led))).IsTuple l items:=⟨_,hol',rfl,nl,rfl⟩
    unfold Builtin.«set.__init__» noKeywords Builtin.Frozenset.updateFrom
    generalize hPI:pyIter=PI
    wp_walk
    subst hPI
    refine wpAny_pyIter_tuple hl1 ?_
    refine wpAny_bind (wpAny_runValue ?_)
    have hlS:l < s.heap.objs.size:=A1 hol
    have hh3:A.in1.in1.in1.handled=none:=by simp [hh]
    have hneI:l ≠ (s.heap.push (aX #[] 0 (.fresh 0 0 led))).objs.size:=by
     rw [gd]; exact A5 (BJ hlS)
    have hSf:s.heap.objs.size ∉ [(s.heap.push (aX #[] 0 (.fresh 0 0 led))).objs.size,l]:=by
     rw [gd]; simp only [A6,AV,Ew,or_false,not_or]
     exact ⟨A5 (B2 _),Ds hlS⟩
    refine o6 (kd:=kd) ((Fg hh3 _ l hneI items).toS) hrm (fun i s' st => ?hI) s.heap.objs.size hSf Bg ks hz hb (items.size - 0) 0 _ #[] (by omega) (Br _)
     ⟨⟨_,A0 _ rfl,rfl,rfl⟩,(hl1.push _)⟩ ?hv (by subst hled; exact kh (AN _ hS)) (Good.nil _) ?hR
    case hI =>
     obtain ⟨o,ho,hc,_⟩:=st.1
     exact ⟨o,ho,by rw [hc]; decide⟩
    case hv =>
     intro j v hv
     obtain ⟨q,e,x⟩:=hi j v hv
     exact ⟨q,e,kd.keeps x fun b o _ e=>AN _ (AN _ e)⟩
    case hR =>
     intro s' es' hm hS' hG'
     obtain ⟨h',g',d',tk',os'⟩:=s'
     have eg:g'=s.gens:=hm.gens
     have ed:d'=s.drawn:=hm.drawn
     have eo:os'=s.os:=hm.os
     subst eg; subst ed; subst eo
     show wpAny _ _ _ _ _ _
     refine wpAny_pure ?_
     show wpAny _ _ (ret Value.none) _ _ _
     refine wpAny_pure ⟨rfl,h',es',tk',rfl,hm.toks,hS',hG',fun b o e => ?_⟩
     have hbb:=A1 e
     have hb1:b ≠ s.heap.objs.size:=A5 hbb
     have hb2:b ≠ (s.heap.push (aX #[] 0 (.fresh 0 0 led))).objs.size:=by
      rw [gd]; exact A5 (BJ hbb)
     exact hm.heap b o (by simp only [A6,AV,Ew,or_false,not_or]; exact ⟨hb1,hb2⟩) (AN _ (AN _ e))
   ·cases r₂ with
    | error e=>exact hr₂
    | ok fl₂ =>
     cases fl₂ with
     | ret r =>
      obtain ⟨rfl,h',es,tk,rfl,htk,hS',hG',hk'⟩:=hr₂
      repeat (any_goals (first | assumption | wp_step))
      exact h _ _ _ htk hS' hG' hk'
     | _=>exact hr₂.elim
  | _=>exact hr.elim
end
open PySem PySem.SetTable PyProof.Rows PySem.Spec
section
variable {prog:Program} {w:World} {A:Around} {E:Value->Shared->Prop} {s:Shared}
set_option maxHeartbeats 3200000 in
theorem call_set_list {κ : Type} {kd:Kd prog w κ} {l:Addr} {items:Array Value} {ks:List κ} {Q:Value->Shared->Prop}
  (hh:A.handled=none) (hrm:kd.room A.in1.in1.in1) (hl:s.heap.IsList l items) (hz:items.size=ks.length) (hi:∀ (i:Nat) v,items[i]? = some v->∃ q,ks[i]? = some q/\kd.El s.heap v q) (hb:items.size < 300)
  (h:∀ (h':Heap) (es:Array (Int × Value)) (tk:Nat),s.toks<=tk->dB w h' s.heap.objs.size es->Good kd h' es ks →
   (∀ b o,s.heap.get? b=some o->h'.get? b=some o)->Q (.ref s.heap.objs.size) { s with heap:=h',toks:=tk }) :
  wpAny (model prog w) A (call (.type "set") [.ref l]) Q E s:=by
 obtain ⟨c,tl,hmro⟩:=B9.mro
 have hmade:=B9.made
 have hsub:=B9.sub
 refine wpAny_call (codeAny_of_tree ?_)
 show wpAny _ _ (callAny (.type "set") _) _ _ _
 refine wpAny_pure ⟨ER _ (by decide +kernel),codeAny_builtin Gn ?_⟩
 rw [FZ (weight_type_call_type "set" [.ref l] []) rfl]
 have h1:=B9.notType
 have h2:=B9.canCreate
 have hct:=Fs (.ref l)
 repeat (any_goals (first | assumption | wp_step))
 have gd:(s.heap.push (aX #[] 0 (.fresh 0 0 (!w.params.followText "set-order")))).objs.size=s.heap.objs.size + 1:=B4 _ _
 refine codeAny_mono (rW (w:=w) (.ref l) (E:=E) (Q₁:=fun obj s₁=>obj = .ref s.heap.objs.size/\s₁={ s with heap:=s.heap.push (aX #[] 0 (.fresh 0 0 (!w.params.followText "set-order"))) }) ⟨rfl,rfl⟩) fun r s₁ hr => ?_
 cases r with
 | error e=>exact hr
 | ok fl =>
  cases fl with
  | ret obj =>
   obtain ⟨rfl,rfl⟩:=hr
   generalize hled:(!w.params.followText "set-order")=led at gd ⊢
   have hS:(s.heap.push (aX #[] 0 (.fresh 0 0 led))).get? s.heap.objs.size=some (aX #[] 0 (.fresh 0 0 led)):=A0 _ rfl
   have hT:Shared.TypeIs { s with heap:=s.heap.push (aX #[] 0 (.fresh 0 0 led)) } (.ref s.heap.objs.size) "set" := ⟨_,hS,rfl⟩
   have hli:=B9.init.lookup
   have hbi:=B9.init.bind (.ref s.heap.objs.size)
   repeat (any_goals (first | assumption | wp_step))
   refine codeAny_mono (codeAny_call_builtin (R:=wants (fun r s₂=>r = .none/\∃ h' es tk,s₂={ s with heap:=h',toks:=tk }/\s.toks<=tk ∧
     dB w h' s.heap.objs.size es/\Good kd h' es ks ∧
     (∀ b o,s.heap.get? b=some o->h'.get? b=some o)) E) B9.init.plain GC (check_set_init_1 hT ?_)) fun r₂ s₂ hr₂ => ?_
   ·obtain ⟨ol,hol,hcl,nl,hdl⟩:=id hl
    obtain ⟨ocls,odict,odata,oslots⟩:=ol
    simp only at hcl hdl
    subst hcl; subst hdl
    have hol':(s.heap.push (aX #[] 0 (.fresh 0 0 led))).get? l=some { cls := .type "list",dict:=odict,data := .seq items nl,slots:=oslots }:=AN _ hol
    have hsls:=PySem.F.sub_list_set
    have hslf:=PySem.F.sub_list_frozenset
    have hne:(Value.type "list" == Value.type "dict")=false:=by decide
    have hl1:(s.heap.push (aX #[] 0 (.fresh 0 0 led))).IsList l items:=⟨_,hol',rfl,nl,rfl⟩
    unfold Builtin.«set.__init__» noKeywords Builtin.Frozenset.updateFrom
    generalize hPI:pyIter=PI
    wp_walk
    subst hPI
    refine wpAny_pyIter_list hl1 ?_
    refine wpAny_bind (wpAny_runValue ?_)
    have hlS:l < s.heap.objs.size:=A1 hol
    have hh3:A.in1.in1.in1.handled=none:=by simp [hh]
    have hneI:l ≠ (s.heap.push (aX #[] 0 (.fresh 0 0 led))).objs.size:=by
     rw [gd]; exact A5 (BJ hlS)
    have hSf:s.heap.objs.size ∉ [(s.heap.push (aX #[] 0 (.fresh 0 0 led))).objs.size,l]:=by
     rw [gd]; simp only [A6,AV,Ew,or_false,not_or]
     exact ⟨A5 (B2 _),Ds hlS⟩
    refine o6 (kd:=kd) ((Gh hh3 _ l hneI items).toS) hrm (fun i s' st => ?hI) s.heap.objs.size hSf Bg ks hz hb (items.size - 0) 0 _ #[] (by omega) (Br _)
     ⟨⟨_,A0 _ rfl,rfl,rfl⟩,(hl1.push _)⟩ ?hv (by subst hled; exact kh (AN _ hS)) (Good.nil _) ?hR
    case hI =>
     obtain ⟨o,ho,hc,_⟩:=st.1
     exact ⟨o,ho,by rw [hc]; decide⟩
    case hv =>
     intro j v hv
     obtain ⟨q,e,x⟩:=hi j v hv
     exact ⟨q,e,kd.keeps x fun b o _ e=>AN _ (AN _ e)⟩
    case hR =>
     intro s' es' hm hS' hG'
     obtain ⟨h',g',d',tk',os'⟩:=s'
     have eg:g'=s.gens:=hm.gens
     have ed:d'=s.drawn:=hm.drawn
     have eo:os'=s.os:=hm.os
     subst eg; subst ed; subst eo
     show wpAny _ _ _ _ _ _
     refine wpAny_pure ?_
     show wpAny _ _ (ret Value.none) _ _ _
     refine wpAny_pure ⟨rfl,h',es',tk',rfl,hm.toks,hS',hG',fun b o e => ?_⟩
     have hbb:=A1 e
     have hb1:b ≠ s.heap.objs.size:=A5 hbb
     have hb2:b ≠ (s.heap.push (aX #[] 0 (.fresh 0 0 led))).objs.size:=by
      rw [gd]; exact A5 (BJ hbb)
     exact hm.heap b o (by simp only [A6,AV,Ew,or_false,not_or]; exact ⟨hb1,hb2⟩) (AN _ (AN _ e))
   ·cases r₂ with
    | error e=>exact hr₂
    | ok fl₂ =>
     cases fl₂ with
     | ret r =>
      obtain ⟨rfl,h',es,tk,rfl,htk,hS',hG',hk'⟩:=hr₂
      repeat (any_goals (first | assumption | wp_step))
      exact h _ _ _ htk hS' hG' hk'
     | _=>exact hr₂.elim
  | _=>exact hr.elim
end
open PySem PySem.SetTable PyProof.Rows
namespace F9
theorem fx:Slot "set_iterator" "__next__" "set_iterator.__next__" :=
 .of (owner := "set_iterator") (n := "__next__") (by rw [typeLookup_type,builtinLookup_eq_fast]; kernel_rfl) (by decide +kernel) (by decide +kernel) (by decide +kernel)
  (by first | exact .inl (by decide +kernel) | exact .inr (by decide +kernel)) (by rw [isSubtype_type]; kernel_rfl)
theorem lH:entryFor table "set_iterator.__next__" = some Builtin.«set_iterator.__next__» := entryFor_of_tree (by kernel_rfl)
theorem nM (a:Value):argsOk "set_iterator.__next__" ⟨[a],[]⟩:=by
 unfold argsOk; kernel_rfl
theorem ki:entryFor table "set.__iter__" = some Builtin.«frozenset.__iter__» :=
 entryFor_alias (id' := "frozenset.__iter__") (by kernel_rfl) rfl (by decide +kernel) (by kernel_rfl)
end F9
theorem kj {α : Type}:∀ (l:List α) (i:Nat) (x : α),l[i]? = some x->(x :: l.eraseIdx i).Perm l
 | [],i,x,h=>by simp at h
 | y :: l,0,x,h=>by simp at h; subst h; exact DH _
 | y :: l,i + 1,x,h=>by
  rw [Cm] at h
  rw [D5]
  exact (List.Perm.swap y x _).trans (List.Perm.cons y (kj l i x h))
theorem rX {α : Type} (next:Nat->Nat):∀ (fuel k:Nat) (left:List α) (out:Array α),left.length=fuel->(pickOrder.go next fuel k left out).toList.Perm (out.toList ++ left)
 | 0,k,left,out,h=>by
  have:left=[]:=Dh.mp h
  subst this
  unfold pickOrder.go
  rw [BM]
 | fuel + 1,k,left,out,h=>by
  unfold pickOrder.go
  have hl:next k % left.length < left.length:=Ed _ (by omega)
  have e:=AO hl
  rw [e]
  dsimp only
  have ih:=rX next fuel (k + 1) (left.eraseIdx (next k % left.length)) (out.push left[next k % left.length]) (by rw [DG,if_pos hl]; omega)
  refine ih.trans ?_
  rw [Cv,Bo]
  exact Cg _ (kj _ _ _ e)
theorem tS {α : Type} (next:Nat->Nat) (xs:Array α):(pickOrder next xs).toList.Perm xs.toList:=by
 unfold pickOrder
 have:=rX next xs.size 0 xs.toList #[] (by simp)
 simpa using this
section
variable {prog:Program} {w:World} {A:Around} {E:Value->Shared->Prop} {s:Shared}
def walkVals (w:World) (a:Addr) (es:Array (Int × Value)) (ep:Nat):List Value :=
 if w.params.followText "set-order" = true then (pickOrder (w.params.setOrder a ep) es).toList.map (·.2) else es.toList.map (·.2)
theorem mB (w:World) (a:Addr) (es:Array (Int × Value)) (ep:Nat):(walkVals w a es ep).Perm (es.toList.map (·.2)):=by
 unfold walkVals
 split
 ·exact (tS _ _).map _
 ·exact DH _
theorem iU {Q:Bool->Shared->Prop} (h:Q (w.params.followText "set-order") s):wpAny (model prog w) A setsByText Q E s:=by
 unfold setsByText
 exact wpAny_bind (wpAny_askSetting (wpAny_pure h))
theorem qJ {a:Addr} {es:Array (Int × Value)} {ep:Nat} {t:SetTable} {Q:Option (Value × Nat)->Shared->Prop} (ho:s.heap.get? a=some (aX es ep t)) (T:Tab t (es.map (·.1))) (hl:t.led = !w.params.followText "set-order") (hp:t.plain=true) {slot i:Nat}
  (hs:w.params.followText "set-order" = false->below t.place slot=i)
  (hy:∀ x slot',(walkVals w a es ep)[i]? = some x->(w.params.followText "set-order" = false->below t.place slot'=i + 1)->Q (some (x,slot')) s)
  (hn:(walkVals w a es ep)[i]? = none->Q none s):wpAny (model prog w) A (setNext a slot i ep) Q E s:=by
 unfold setNext
 refine wpAny_bind (bO ho T ?_)
 dsimp only
 refine wpAny_bind (iU ?_)
 cases hb:w.params.followText "set-order" with
 | true =>
  rw [hb] at hs hy
  simp only [bne_self_eq_false,A8,if_true,if_false]
  refine wpAny_bind ?_
  unfold setWalk
  refine wpAny_bind (bO ho T ?_)
  dsimp only
  refine wpAny_bind (iU ?_)
  rw [hb]
  simp only [if_true]
  refine wpAny_bind (wpAny_askSetting (wpAny_pure ?_))
  refine wpAny_pure ?_
  have ew:(walkVals w a es ep)[i]? = ((pickOrder (w.params.setOrder a ep) es)[i]?).map (·.2):=by
   unfold walkVals
   rw [if_pos hb,AX,A3]
  show Q (((pickOrder (w.params.setOrder a ep) es)[i]?).map fun e=>(e.2,slot)) s
  cases hx:(pickOrder (w.params.setOrder a ep) es)[i]? with
  | none=>rw [hx] at ew; exact hn ew
  | some e=>rw [hx] at ew; exact hy _ _ ew (fun q=>by cases q)
 | false =>
  have hs':=hs hb
  simp only [A8,if_false]
  have ew:(walkVals w a es ep)[i]? = (es[i]?).map (·.2):=by
   unfold walkVals
   rw [if_neg (by rw [hb]; exact A9),AX,A3]
  show wpAny _ _ (if (!t.plain && decide (es.size > 1))=true then _ else _) _ _ _
  rw [hp]
  simp only [Ca,EU,A8,if_false]
  refine wpAny_bind ?_
  show wpAny _ _ (if (!t.led && !es.isEmpty)=true then _ else _) _ _ _
  rw [hl,hb]
  simp only [FL,Ca,EU,A8,if_false]
  refine wpAny_pure ?_
  rw [hs']
  by_cases hi:i < es.size
  ·have ee:es[i]? = some es[i]:=Be hi
   have hpl:i < t.place.size:=by rw [T.size,BD]; exact hi
   have ep':t.place[i]? = some t.place[i]:=Be hpl
   rw [ee,ep']
   rw [ee] at ew
   exact wpAny_pure (hy _ _ ew fun _=>qC T.rise ep')
  ·have ee:es[i]? = none:=Cq (by omega)
   rw [ee]
   rw [ee] at ew
   exact wpAny_pure (hn ew)
def iV (h:Heap) (it a:Addr) (slot i n ep:Nat):Prop:=h.get? it=some { cls := .type "set_iterator",data := .fields #[.int slot 0,.int i 0,.ref a,.int n 0,.int ep 0] }
theorem iV.typeIs {it a:Addr} {slot i n ep:Nat} (x:iV s.heap it a slot i n ep):s.TypeIs (.ref it) "set_iterator" := ⟨_,x,rfl⟩
end
open PySem PySem.SetTable PyProof.Rows
section
variable {prog:Program} {w:World} {A:Around} {E:Value->Shared->Prop} {s:Shared}
structure qK (w:World) (h:Heap) (it a:Addr) (es:Array (Int × Value)) (ep i:Nat):Prop where
 st:∃ t slot,h.get? a=some (aX es ep t)/\Tab t (es.map (·.1))/\t.led=(!w.params.followText "set-order")/\t.plain=true/\(w.params.followText "set-order" = false->below t.place slot=i)/\iV h it a slot i es.size ep
theorem rY {it a:Addr} {es:Array (Int × Value)} {ep i:Nat} {Q:Option Value->Shared->Prop} (hh:A.handled=none) (hne:it ≠ a) (O:qK w s.heap it a es ep i)
  (hy:∀ x h',(walkVals w a es ep)[i]? = some x->qK w h' it a es ep (i + 1)->Heap.SameBut it s.heap h'->Q (some x) { s with heap:=h' })
  (hn:(walkVals w a es ep)[i]? = none->∀ h',Heap.ExtBut it s.heap h'->Q none { s with heap:=h' }) :
  wpAny (model prog w) A (pyNext (.ref it)) Q E s:=by
 obtain ⟨t,slot,ho,T,hl,hp,hs,hit⟩:=O.st
 have hf:t.fits es.size=true:=by have:=T.fits; rwa [BD] at this
 unfold pyNext
 refine wpAny_bind (wpAny_attempt (wpAny_callSpecial?_slot (name:=Str.ofString "__next__") hit.typeIs F9.fx
  (wpAny_call_entry F9.fx hit.typeIs F9.lH ?_ (F9.nM _))))
 show wpAny _ _ (fieldsOf (.ref it) >>= _) _ _ s
 refine wpAny_bind (wpAny_fieldsOf hit rfl ?_)
 show wpAny _ _ (setEntries a >>= _) _ _ s
 refine wpAny_bind (wpAny_setEntries_of ho rfl hf ?_)
 rw [if_neg (by simp)]
 show wpAny _ _ (setNext a ((slot:Int).toNat) ((i:Int).toNat) ((ep:Int).toNat) >>= _) _ _ s
 rw [BO,BO,BO]
 refine wpAny_bind (qJ ho T hl hp hs (fun x slot' ex hs' => ?_) fun ex => ?_)
 ·dsimp only
  refine wpAny_bind (wpAny_setField_rec hit (by simp) fun h1 e1 sb1 => ?_)
  refine wpAny_bind (wpAny_setField_rec e1 (by simp) fun h2 e2 sb2 => ?_)
  refine wpAny_pure ⟨x,rfl,wpAny_pure (hy x h2 ex ⟨t,slot',?_,T,hl,hp,hs',?_⟩ (sb1.trans sb2))⟩
  ·rw [(sb1.trans sb2).2 a (BN hne)]; exact ho
  ·unfold iV
   rw [e2]
   simp [rawInt]
 ·dsimp only
  refine wpAny_bind (wpAny_setField_rec hit (by simp) fun h1 e1 sb1 => ?_)
  show wpAny _ _ (newExc (.type "StopIteration") [] >>= _) _ _ _
  refine wpAny_bind ?_
  simp only [newExc,newTuple]
  refine wpAny_bind (wpAny_newObj_type ?_ (by size_fits))
  refine wpAny_bind (m:=firstArgMember _ _) (wpAny_of_eq (a:=Value.none) (by first | rfl | (simp only [firstArgMember]; rfl)) ?_)
  refine wpAny_newObj_type ?_ (by size_fits)
  simp only [raiseNew]
  refine wpAny_bind (wpAny_handled ?_)
  first | rw [show A.in1.handled=none from hh] | rw [hh]
  refine wpAny_bind (wpAny_pure (wpAny_throw ?_))
  refine wpAny_bind (wpAny_isInstance (T := "StopIteration") (b:=true) ⟨_,A0 _ rfl,rfl⟩ isSubtype_stop ?_)
  exact wpAny_pure (hn ex _ ((sb1.extBut.push _).push _))
theorem o7 {it a S:Addr} {es:Array (Int × Value)} {ep:Nat} {res:Value} {R:Result->Shared->Prop} (hh:A.in1.handled=none) (hne:it ≠ a) (hSI:S ≠ it) (hSa:S ≠ a) (hz:es.size < 300) :
  ∀ (k i:Nat) (h:Heap) (acc:Array Value) (c:Nat),es.size - i=k->i<=es.size->qK w h it a es ep i->h.get? S=some { cls := .type "list",dict:=none,data := .seq acc c,slots := #[] }->acc.toList=(walkVals w a es ep).take i →
  (∀ h' acc' c',(∀ b o,b ≠ S->b ≠ it->h.get? b=some o->h'.get? b=some o)->h'.get? S=some { cls := .type "list",dict:=none,data := .seq acc' c',slots := #[] }->acc'.toList=walkVals w a es ep->R (.ok (.ret res)) { s with heap:=h' }) →
  codeAny (model prog w) A (.builtin "list.extend.loop" ⟨[.ref S,.ref it,res],[]⟩) R { s with heap:=h }:=by
 have lw:(walkVals w a es ep).length=es.size:=by rw [(mB w a es ep).length_eq,AM,AW]
 have zl:300<=sizeLine:=by rw [sizeLine_eq]; omega
 intro k
 induction k with
 | zero =>
  intro i h acc c hk hi O hS ha hR
  have hin:i=es.size:=by omega
  subst hin
  refine codeAny_builtin FP ?_
  rw [BA Dk _]
  show wpAny _ A.in1 (pyNext (.ref it) >>= _) _ _ { s with heap:=h }
  refine wpAny_bind (rY hh hne O (fun x h' ex => ?_) fun ex h' xb => ?_)
  ·rw [Bl (by omega)] at ex; cases ex
  ·refine wpAny_pure (hR h' acc c (fun b o _ hb e=>xb b o hb e) (xb S _ hSI hS) ?_)
   rw [ha,A7 (by omega)]
 | succ k ih =>
  intro i h acc c hk hi O hS ha hR
  have hlt:i < es.size:=by omega
  refine codeAny_builtin FP ?_
  rw [BA Dk _]
  show wpAny _ A.in1 (pyNext (.ref it) >>= _) _ _ { s with heap:=h }
  refine wpAny_bind (rY hh hne O (fun x h' ex O' sb => ?_) fun ex => ?_)
  ·have hS':h'.get? S=some { cls := .type "list",dict:=none,data := .seq acc c,slots := #[] }:=by rw [sb.2 S hSI]; exact hS
   have hal:acc.size=i:=by rw [<- AW,ha,BL]; omega
   show wpAny _ A.in1 (updateSeq S (·.push x) >>= _) _ _ _
   refine wpAny_bind ?_
   refine wpAny_updateSeq (s:={ s with heap:=h' }) hS' rfl (wpAny_pure ⟨plainId_quiet Dk _,ih (i + 1) _ (acc.push x) _ (by omega) hlt ?_ (Bv _ hS' rfl) ?_ fun h'' acc' c' kk hS'' ha' => ?_⟩)
    (by rw [hal]; omega) (by show (acc.push x).size<=sizeLine + 1; rw [C9,hal]; omega)
   ·obtain ⟨t,slot,ho,T,hl,hp,hs,hit⟩:=O'.st
    exact ⟨t,slot,(Bd _ _ hSa).trans ho,T,hl,hp,hs,(Bd _ _ hSI).trans hit⟩
   ·rw [Cv,ha,G3,ex]; rfl
   ·refine hR h'' acc' c' (fun b o hb hb2 e=>kk b o hb hb2 ?_) hS'' ha'
    refine (Bd _ _ (BN hb)).trans ?_
    rw [sb.2 b hb2]; exact e
  ·rw [AO (by omega)] at ex; cases ex
theorem o8 {a:Addr} {es:Array (Int × Value)} {R:List Value->Shared->Prop} (hh:A.handled=none) (I:dB w s.heap a es) (hz:es.size < 300)
  (h:∀ h1 vs,vs.Perm (es.toList.map (·.2))->(∀ b o,s.heap.get? b=some o->h1.get? b=some o)->s.heap.objs.size<=h1.objs.size->R vs { s with heap:=h1 }) :
  wpAny (model prog w) A (collect (.ref a)) R E s:=by
 obtain ⟨ep,t,ho,T,rm,hl,hp⟩:=I
 have hf:t.fits es.size=true:=by have:=T.fits; rwa [BD] at this
 have hlt:=A1 ho
 unfold collect
 refine wpAny_bind (wpAny_runValue (codeAny_builtin F.entry_proto_collect ?_))
 rw [BA F.plain_proto_collect _]
 show wpAny _ A.in1 (newList [] >>= fun l=>again (.builtin "list.__iadd__" ⟨[l,.ref a],[]⟩)) _ _ s
 refine wpAny_bind (wpAny_newObj_type ?_)
 refine wpAny_pure ⟨plainId_quiet Gp _,codeAny_builtin F.entry_list_iadd ?_⟩
 rw [BA Gp _]
 show wpAny _ A.in1 (Builtin.List.listExtendWith (.ref s.heap.objs.size) (.ref a) (.ref s.heap.objs.size)) _ _ _
 unfold Builtin.List.listExtendWith
 have hSa:s.heap.objs.size ≠ a:=Ds hlt
 have z1:(s.heap.push { cls := .type "list",data := .seq ([]:List Value).toArray }).objs.size=s.heap.objs.size + 1:=B4 _ _
 have ho1:(s.heap.push { cls := .type "list",data := .seq ([]:List Value).toArray }).get? a=some (aX es ep t):=AN _ ho
 have hT1:Shared.TypeIs { s with heap:=s.heap.push { cls := .type "list",data := .seq ([]:List Value).toArray } } (.ref a) "set" := ⟨_,ho1,rfl⟩
 refine wpAny_bind (wpAny_typeOf hT1 ?_)
 have h1:Builtin.List.listSameRef (.ref s.heap.objs.size) (.ref a)=false:=by simp [Builtin.List.listSameRef,hSa]
 have h2:(Value.type "set" == Value.type "list")=false:=by decide
 have h3:(Value.type "set" == Value.type "tuple")=false:=by decide
 simp only [h1,h2,h3,F0,A8,if_false]
 refine wpAny_bind (wpAny_pyIter_slot hT1 GP (wpAny_call_entry GP hT1 F9.ki ?_ (F.args_set_iter_1 _)))
 unfold Builtin.«frozenset.__iter__» Builtin.Frozenset.slot0 slotArgs
 simp only [List.isEmpty_nil,Ca,A8, ↓reduceIte,bind_assoc,CB,bne_self_eq_false]
 unfold Builtin.Frozenset.addrOf Builtin.Frozenset.sizeOf
 refine wpAny_bind (wpAny_pure ?_)
 try dsimp only
 refine wpAny_bind (wpAny_pure ?_)
 refine wpAny_bind (wpAny_bind (wpAny_setEntries_of ho1 rfl hf (wpAny_pure ?_)))
 refine wpAny_bind ?_
 unfold setDrawn
 refine wpAny_bind (bO ho1 T ?_)
 dsimp only
 refine wpAny_bind (iU ?_)
 show wpAny _ _ (pure (!w.params.followText "set-order" && (!t.plain && decide (es.size > 1)))) _ _ _
 rw [hp]
 simp only [Ca,EU,EV]
 refine wpAny_pure ?_
 simp only [A8,if_false]
 refine wpAny_bind (wpAny_pure ?_)
 refine wpAny_bind (wpAny_setEpoch_of ho1 rfl hf ?_)
 refine wpAny_bind (wpAny_newObj_type (wpAny_pure ⟨_,rfl, "set_iterator",_,⟨_,A0 _ rfl,rfl⟩,F9.fx.lookup,?_⟩))
 have zit:(s.heap.push { cls := .type "list",data := .seq ([]:List Value).toArray }).objs.size=s.heap.objs.size + 1:=z1
 show wpAny _ A.in1 (holding [.ref (s.heap.push { cls := .type "list",data := .seq ([]:List Value).toArray }).objs.size] (Builtin.List.listLengthHint (.ref a)) >>= _) _ _ { s with heap:=(s.heap.push { cls := .type "list",data := .seq ([]:List Value).toArray }).push { cls := .type "set_iterator",data := .fields #[rawInt 0,rawInt 0,.ref a,rawInt es.size,rawInt ep] } }
 rw [zit]
 generalize hH:(s.heap.push { cls := .type "list",data := .seq ([]:List Value).toArray }).push { cls := .type "set_iterator",data := .fields #[rawInt 0,rawInt 0,.ref a,rawInt es.size,rawInt ep] }=H
 have kH:∀ b o,(s.heap.push { cls := .type "list",data := .seq ([]:List Value).toArray }).get? b=some o->H.get? b=some o:=fun b o e=>by rw [<- hH]; exact AN _ e
 have zH:H.objs.size=s.heap.objs.size + 2:=by rw [<- hH,B4,z1]
 have hit:iV H (s.heap.objs.size + 1) a 0 0 es.size ep:=by
  unfold iV
  rw [<- hH, <- z1]
  exact A0 _ rfl
 have hT2:Shared.TypeIs { s with heap:=H } (.ref a) "set" := ⟨_,kH _ _ ho1,rfl⟩
 refine wpAny_bind (wpAny_holding ?_)
 unfold Builtin.List.listLengthHint
 refine wpAny_bind (wpAny_specialOf hT2 F.slot_set_len.lookup ?_)
 dsimp only
 rw [show splitId "set.__len__" = some ("set", "__len__") by kernel_rfl]
 dsimp only
 refine wpAny_bind (wpAny_isInstance hT2 sub_set_self ?_)
 simp only [Ca,A8,if_false]
 show wpAny _ _ (typeOf (.ref a) >>= _) _ _ _
 refine wpAny_bind (wpAny_typeOf hT2 ?_)
 refine wpAny_pure ?_
 show wpAny _ A.in1 (rule "list.extend.makes-room" >>= fun _=>Builtin.List.listTouch (.ref s.heap.objs.size) >>= fun _ =>
  again (.builtin "list.extend.loop" ⟨[.ref s.heap.objs.size,.ref (s.heap.objs.size + 1),.ref s.heap.objs.size],[]⟩)) _ _ _
 refine wpAny_bind (wpAny_rule ?_)
 have hS₁:H.get? s.heap.objs.size=some { cls := .type "list",data := .seq ([]:List Value).toArray }:=kH _ _ (A0 _ rfl)
 refine wpAny_bind ?_
 show wpAny _ A.in1 (updateSeq s.heap.objs.size (·.push .none) >>= fun _=>updateSeq s.heap.objs.size (·.pop)) _ _ _
 refine wpAny_bind (wpAny_updateSeq (s:={ s with heap:=H }) hS₁ rfl ?_)
 have hS₂:=Bv (Obj.mapSeq (·.push Value.none)) hS₁ rfl
 refine wpAny_updateSeq hS₂ rfl ?_
 have hS₃:=Bv (Obj.mapSeq (·.pop)) hS₂ rfl
 have oth:∀ b o,b ≠ s.heap.objs.size->H.get? b=some o->((H.update s.heap.objs.size (Obj.mapSeq (·.push Value.none))).update s.heap.objs.size (Obj.mapSeq (·.pop))).get? b=some o :=
  fun b o hb e=>(Bd _ _ (BN hb)).trans ((Bd _ _ (BN hb)).trans e)
 refine wpAny_pure ⟨plainId_quiet Dk _,o7 (it:=s.heap.objs.size + 1) (a:=a) (es:=es) (ep:=ep) (s:=s) hh (Ds (BJ hlt)) (A5 (B2 _)) hSa hz es.size 0 _ _ _ rfl (Br _)
  ⟨t,0,oth a _ (BN hSa) (kH _ _ ho1),T,hl,hp,fun _=>qD T.rise,oth _ _ (Ds (B2 _)) hit⟩ hS₃ rfl fun h' acc' c' kk hS' ha => ?_⟩
 show wpAny _ A (load s.heap.objs.size >>= _) _ _ { s with heap:=h' }
 refine wpAny_bind (wpAny_load hS' ?_)
 have kf:∀ b o,s.heap.get? b=some o->h'.get? b=some o:=fun b o e=>by
  have:=A1 e
  exact kk b o (A5 this) (A5 (BJ this)) (oth b o (A5 this) (kH b o (AN _ e)))
 refine wpAny_pure ?_
 rw [ha]
 exact h h' _ (mB w a es ep) kf (DP (A1 hS'))
end
open PySem PySem.SetTable PyProof.Rows Srt
def Kd.sub {prog:Program} {w:World} {κ : Type} (kd:Kd prog w κ) (M:Value->Prop):Kd prog w κ where
 El:=fun h v k=>kd.El h v k/\M v
 hash:=kd.hash
 room:=kd.room
 keeps:=fun x t=>⟨kd.keeps x.1 t,x.2⟩
 inj:=fun x y=>kd.inj x.1 y.1
 add:=by
  intro A E s a es v k Q hr I els hv hz hin hnew
  refine kd.add hr I (fun e he => ?_) hv.1 hz (fun x tk htk=>hin ?_ tk htk) fun x h' es' tk htk sb I' pm=>hnew ?_ h' es' tk htk sb I' pm
  ·obtain ⟨k',a1,a2,a3⟩:=els e he; exact ⟨k',a1,a2⟩
  ·obtain ⟨e,he,y⟩:=x
   obtain ⟨k',a1,a2,a3⟩:=els e he
   exact ⟨e,he,y,a3⟩
  ·rintro ⟨e,he,y,_⟩; exact x ⟨e,he,y⟩
section
variable {prog:Program} {w:World} {A:Around} {E:Value->Shared->Prop} {s:Shared} {O:KeyOrd} {key:Value->O.α}
theorem qL {a:Addr} {es:Array (Int × Value)} {Q:Value->Shared->Prop} (hh:A.handled=none) (I:dB w s.heap a es) (hz:es.size < 300) (C:∀ vs:List Value,vs.Perm (es.toList.map (·.2))->jD prog w s vs O key)
  (h:∀ (h':Heap) (p:Addr) (out:List Value) (n:Nat),(∀ b o,s.heap.get? b=some o->h'.get? b=some o)->s.heap.objs.size<=p->h'.get? p=some (seqObj "list" out.toArray n)->out.Perm (es.toList.map (·.2))->out.Pairwise (fun x y=>O.kle (key x) (key y))->Q (.ref p) { s with heap:=h' }) :
  wpAny (model prog w) A (call (.builtin "sorted") [.ref a]) Q E s:=by
 refine EY kind_sorted plain_sorted entry_sorted (args_sorted1 _) ?_
 unfold Builtin.«sorted»
 refine wpAny_bind (m:=checkCount "sorted" 1 1 _) (wpAny_pure ?_)
 refine wpAny_bind (o8 (by simpa using hh) I hz fun h1 vs pv k1 z1 => ?_)
 have hz':vs.length<=sizeLine:=by
  rw [pv.length_eq,AM,AW]
  have:300<=sizeLine:=by rw [sizeLine_eq]; omega
  omega
 refine wpAny_bind (wpAny_newList ?_ hz')
 have hoL:(h1.push (seqObj "list" vs.toArray 0)).get? h1.objs.size=some (seqObj "list" vs.toArray 0):=A0 _ rfl
 have kL:∀ b o,s.heap.get? b=some o->(h1.push (seqObj "list" vs.toArray 0)).get? b=some o:=fun b o e=>AN _ (k1 b o e)
 refine wpAny_bind (wpAny_holding (wpAny_call_entry slot_list_sort ⟨_,hoL,rfl⟩ entry_list_sort (gM (key:=key) (O:=O) hoL hz' (fun h2 h6 k6 => ?_) fun out pm ps=>⟨_,rfl,?_⟩) (args_list_sort _)))
 ·exact (C vs pv).ok h2 _ h6 fun b o e=>k6 b o (A5 (Ba (A1 e) z1)) (kL b o e)
 ·obtain ⟨n,en⟩:=sortedHeap_at (out:=out.toArray) hoL
  refine wpAny_pure ⟨_,rfl,h _ _ out n (fun b o e => ?_) z1 en (pm.trans pv) ps⟩
  have lt:=Ba (A1 e) z1
  rw [sortedHeap_old (A5 lt) (by rw [size_push']; exact BJ lt)]
  exact kL b o e
end
end STab
namespace L2
open PySem PySem.Spec PyProof.Rows
section
variable {X:Cx}
def d8 (w:World) (a:Addr) (ys:List V):HO := .ext fun h=>∃ es,STab.dB w h a es/\Vals ys (es.toList.map (·.2))
theorem rZ {prog:Program} {w:World} {H:Hp} {h:Heap} {a:Addr} {ys:List V} {es:Array (Int × Value)} (I:STab.dB w h a es) (r:Vals ys (es.toList.map (·.2))):bA prog w (upd H a (d8 w a ys)) h a (d8 w a ys):=by
 refine ⟨⟨es,I,r⟩,?_,fun h1 h2 ⟨es',I',r'⟩ k=>⟨es',I'.at k,r'⟩⟩
 obtain ⟨ep,t,ho,_⟩:=I
 exact ⟨_,ho⟩
theorem o9:∀ {ns:List Int} {xs:List Value} {prog:Program} {w:World},IntsAre xs ns->ItemsAre (intKind prog w) ns xs
 | _,_,_,_,.nil => .nil
 | _,_,_,_,.cons n t r => .cons (intKind_is _ _ _ _) (o9 r)
theorem Inv.tk {pins:List (Addr × Obj)} {σ:St} {H:Hp} {s:Shared} (I:Inv X pins σ H s) {b:Addr} {ns:List Int} (h:SqT X.K H b (ns.map V.int)):STab.TK X.prog X.w s.heap ns b:=by
 obtain ⟨its,r,⟨o,e,c,n,d⟩,_⟩:=I.tuple h
 exact ⟨o,_,n,e,c,d,o9 (by simpa using cS r)⟩
theorem pull {α β : Type} {f : α -> β} {ts:List α}:∀ {l:List β},(∀ v ∈ l,∃ t ∈ ts,v=f t)->∃ us:List α,l=us.map f/\∀ t ∈ us,t ∈ ts
 | [],_=>⟨[],rfl,fun t h=>by cases h⟩
 | v :: l,h=>by
  obtain ⟨t,ht,e⟩:=h v Bg
  obtain ⟨us,e2,m⟩:=pull (l:=l) fun v' hv=>h v' (Bh _ hv)
  refine ⟨t :: us,by rw [Bj, <- e, <- e2],fun t' ht' => ?_⟩
  rcases A6.mp ht' with rfl | h'
  ·exact ht
  ·exact m _ h'
theorem tW (hh:X.A.handled=none) (hu:X.A.units + 64 < cLine):bJ X (.type "set") (fun xs H Q=>∃ (p:Addr) (ts:List (Addr × List Int)),xs=[.ref p]/\(SqL X.K H p (ts.map fun t => .ref t.1)\/SqT X.K H p (ts.map fun t => .ref t.1))/\(∀ t ∈ ts,SqT X.K H t.1 (t.2.map V.int))/\ts.length < 300 ∧
  ∀ (a:Addr) (us:List (Addr × List Int)),H a=none->(∀ t ∈ us,t ∈ ts)->(us.map (·.2)).Nodup->(∀ t ∈ ts,t.2 ∈ us.map (·.2))->us.length<=ts.length->Q (.ref a) (upd H a (d8 X.w a (us.map fun t => .ref t.1)))):=by
 intro pins s σ H xs vs Q I r h
 obtain ⟨p,ts,rfl,hs,ht,hl,q⟩:=h
 obtain ⟨u,rfl,ru⟩:=vals1 r
 cases (show u=Value.ref p from ru)
 have goal:∀ (items:Array Value),items.toList=(ts.map fun t=>Value.ref t.1)->∀ (h':Heap) (es:Array (Int × Value)) (tk:Nat),s.toks<=tk->STab.dB X.w h' s.heap.objs.size es->STab.Good ((STab.jq X.prog X.w).sub (· ∈ items.toList)) h' es (ts.map (·.2)) →
   (∀ b o,s.heap.get? b=some o->h'.get? b=some o)->EP X pins σ Q (.ref s.heap.objs.size) { s with heap:=h',toks:=tk }:=by
  intro items ei h' es tk _ S G k
  obtain ⟨us,eu,mu⟩:=pull (f:=fun t:Addr × List Int=>Value.ref t.1) (ts:=ts) (l:=es.toList.map (·.2)) (fun v hv=>by
   obtain ⟨e,he,rfl⟩:=Bc.mp hv
   obtain ⟨_,_,_,_,m⟩:=G.el e (Bq.mp he)
   rw [ei] at m
   obtain ⟨t,ht',e'⟩:=Bc.mp m
   exact ⟨t,ht',e'.symm⟩)
  have tk':∀ t ∈ us,STab.TK X.prog X.w h' t.2 t.1:=fun t m=>(I.tk (ht t (mu t m))).keep fun b o _ e=>k b o e
  have elu:∀ t ∈ us,((STab.jq X.prog X.w).sub (· ∈ items.toList)).El h' (.ref t.1) t.2:=fun t m=>⟨⟨t.1,rfl,tk' t m⟩,by
   rw [ei]; exact Bc.mpr ⟨t,mu t m,rfl⟩⟩
  have nd:(us.map (·.2)).Nodup:=by
   have d:=G.dis
   have d2:(es.toList.map (·.2)).Pairwise (fun v v'=>∀ k,((STab.jq X.prog X.w).sub (· ∈ items.toList)).El h' v k->¬ ((STab.jq X.prog X.w).sub (· ∈ items.toList)).El h' v' k):=by
    rw [BQ]; exact d
   rw [eu,BQ] at d2
   unfold List.Nodup
   rw [BQ]
   refine d2.imp_of_mem fun {t t'} m m' x e=>x t.2 (elu t m) ?_
   have:=elu t' m'
   rw [<- e] at this
   exact this
  have cov:∀ t ∈ ts,t.2 ∈ us.map (·.2):=fun t m=>by
   obtain ⟨e,he,x,_⟩:=G.all t.2 (Bc.mpr ⟨t,m,rfl⟩)
   have:e.2 ∈ us.map fun t=>Value.ref t.1:=by rw [<- eu]; exact Bc.mpr ⟨e,Bq.mpr he,rfl⟩
   obtain ⟨u,hu',e'⟩:=Bc.mp this
   obtain ⟨b,eb,x⟩:=x
   rw [<- e'] at eb
   injection eb with eb
   subst eb
   exact Bc.mpr ⟨u,hu',(tk' u hu').inj x⟩
  have hlen:us.length<=ts.length:=by
   have:=G.len
   rw [AM] at this
   have e2:=congrArg List.length eu
   rw [AM,AM,AW] at e2
   omega
  refine ⟨.ref s.heap.objs.size,_,I.laid k (AS _) (rZ (ys:=us.map fun t=>V.ref t.1) S (by rw [eu]; exact gs)),rfl,q _ us (I.hok.fresh (AS _)) mu nd cov hlen⟩
 have rm:((STab.jq X.prog X.w).sub (fun v=>True)).room X.A.in1.in1.in1:=by show X.A.units + 1 + 1 + 1 < cLine; omega
 have itm:∀ (its:List Value),its=(ts.map fun t=>Value.ref t.1)->∀ (i:Nat) (v:Value),its.toArray[i]? = some v->∃ q,(ts.map (·.2))[i]? = some q/\((STab.jq X.prog X.w).sub (· ∈ its.toArray.toList)).El s.heap v q:=by
  intro its ei i v hv
  rw [Bs,ei,AX] at hv
  cases ht':ts[i]? with
  | none=>rw [ht'] at hv; cases hv
  | some t =>
   rw [ht'] at hv
   cases hv
   have m:=AY ht'
   refine ⟨t.2,by rw [AX,ht']; rfl,⟨t.1,rfl,I.tk (ht t m)⟩,?_⟩
   show Value.ref t.1 ∈ its
   rw [ei]
   exact Bc.mpr ⟨t,m,rfl⟩
 rcases hs with hs | hs
 ·obtain ⟨its,rv,⟨o,n,e,c,dn,d⟩,z⟩:=I.list hs
  have ei:=eJ rv
  have lz:its.length=ts.length:=by rw [ei,AM]
  refine STab.call_set_list (kd:=(STab.jq X.prog X.w).sub (· ∈ its.toArray.toList)) (items:=its.toArray) (ks:=ts.map (·.2)) hh rm ⟨o,e,c,n,d⟩ (by simp [lz]) (fun i v hv => ?_) (by simpa [lz] using hl) (goal its.toArray (by simpa using ei))
  exact itm its ei i v hv
 ·obtain ⟨its,rv,⟨o,e,c,n,d⟩,z⟩:=I.tuple hs
  have ei:=eJ rv
  have lz:its.length=ts.length:=by rw [ei,AM]
  refine STab.fM (kd:=(STab.jq X.prog X.w).sub (· ∈ its.toArray.toList)) (items:=its.toArray) (ks:=ts.map (·.2)) hh rm ⟨o,e,c,n,d⟩ (by simp [lz]) (fun i v hv => ?_) (by simpa [lz] using hl) (goal its.toArray (by simpa using ei))
  exact itm its ei i v hv
theorem tX (hh:X.A.handled=none):bJ X (.type "set") (fun xs H Q=>∃ (p:Addr) (ns:List Int),xs=[.ref p]/\(SqL X.K H p (ns.map V.int)\/SqT X.K H p (ns.map V.int))/\ns.length < 300 ∧
  ∀ (a:Addr) (us:List Int),H a=none->(∀ k,k ∈ us ↔ k ∈ ns)->us.Nodup->us.length<=ns.length->Q (.ref a) (upd H a (d8 X.w a (us.map V.int)))):=by
 intro pins s σ H xs vs Q I r h
 obtain ⟨p,ns,rfl,hs,hl,q⟩:=h
 obtain ⟨u,rfl,ru⟩:=vals1 r
 cases (show u=Value.ref p from ru)
 have goal:∀ (h':Heap) (es:Array (Int × Value)) (tk:Nat),s.toks<=tk->STab.dB X.w h' s.heap.objs.size es->STab.Good (STab.rV X.prog X.w) h' es ns →
   (∀ b o,s.heap.get? b=some o->h'.get? b=some o)->EP X pins σ Q (.ref s.heap.objs.size) { s with heap:=h',toks:=tk }:=by
  intro h' es tk _ S G k
  have sh:∀ v ∈ es.toList.map (·.2),∃ k t,v=Value.int k t:=fun v hv=>by
   obtain ⟨e,he,rfl⟩:=Bc.mp hv
   obtain ⟨k',_,_,t,e'⟩:=G.el e (Bq.mp he)
   exact ⟨k',t,e'⟩
  have ru:=ik (iS sh)
  have mem:∀ k,k ∈ (es.toList.map (·.2)).map Srt.intOf ↔ k ∈ ns:=fun k=>by
   constructor
   ·intro m
    obtain ⟨v,hv,rfl⟩:=Bc.mp m
    obtain ⟨e,he,rfl⟩:=Bc.mp hv
    obtain ⟨k',mk,_,t,e'⟩:=G.el e (Bq.mp he)
    rw [e']; exact mk
   ·intro m
    obtain ⟨e,he,t,e'⟩:=G.all k m
    exact Bc.mpr ⟨e.2,Bc.mpr ⟨e,Bq.mpr he,rfl⟩,by rw [e']; rfl⟩
  have nd:((es.toList.map (·.2)).map Srt.intOf).Nodup:=by
   unfold List.Nodup
   rw [BQ,BQ]
   refine G.dis.imp_of_mem fun {e e'} m m' x y => ?_
   obtain ⟨k1,_,_,t1,e1⟩:=G.el e (Bq.mp m)
   obtain ⟨k2,_,_,t2,e2⟩:=G.el e' (Bq.mp m')
   rw [e1,e2] at y
   have y':k1=k2:=y
   subst y'
   exact x k1 ⟨t1,e1⟩ ⟨t2,e2⟩
  refine ⟨.ref s.heap.objs.size,_,I.laid k (AS _) (rZ S ru),rfl,q _ _ (I.hok.fresh (AS _)) mem nd (by rw [AM,AM,AW]; exact G.len)⟩
 have itm:∀ (its:List Value),Vals (ns.map V.int) its->∀ (i:Nat) (v:Value),its.toArray[i]? = some v->∃ q,ns[i]? = some q/\(STab.rV X.prog X.w).El s.heap v q:=by
  intro its rv i v hv
  have hI:=cS rv
  obtain ⟨t,e⟩:=IntsAre.int_at hI i v (by rw [Bs] at hv; exact hv)
  have hlt:i < ns.length:=by
   have:=hI.length
   rw [Bs] at hv
   have:=(AU.mp hv).1
   omega
  refine ⟨ns.getD i 0,?_,t,e⟩
  rw [AZ,AO hlt]
  rfl
 rcases hs with hs | hs
 ·obtain ⟨its,rv,⟨o,n,e,c,dn,d⟩,z⟩:=I.list hs
  have lz:its.length=ns.length:=by have:=rv.length; rw [AM] at this; exact this.symm
  exact STab.call_set_list (kd:=STab.rV X.prog X.w) (items:=its.toArray) (ks:=ns) hh trivial ⟨o,e,c,n,d⟩ (by simp [lz]) (itm its rv) (by simpa [lz] using hl) goal
 ·obtain ⟨its,rv,⟨o,e,c,n,d⟩,z⟩:=I.tuple hs
  have lz:its.length=ns.length:=by have:=rv.length; rw [AM] at this; exact this.symm
  exact STab.fM (kd:=STab.rV X.prog X.w) (items:=its.toArray) (ks:=ns) hh trivial ⟨o,e,c,n,d⟩ (by simp [lz]) (itm its rv) (by simpa [lz] using hl) goal
theorem Inv.d8 {pins:List (Addr × Obj)} {σ:St} {H:Hp} {s:Shared} (I:Inv X pins σ H s) {a:Addr} {ys:List V} (h:H a=some (d8 X.w a ys)):∃ es,STab.dB X.w s.heap a es/\Vals ys (es.toList.map (·.2)):=by
 exact (I.hok a _ h).1
theorem lI (hh:X.A.handled=none):bJ X (.builtin "sorted") (fun xs H Q=>∃ (a:Addr) (ts:List (Addr × List Int)),xs=[.ref a]/\H a=some (d8 X.w a (ts.map fun t => .ref t.1))/\(∀ t ∈ ts,SqT X.K H t.1 (t.2.map V.int)/\t.2 ≠ [])/\ts.length < 300 ∧
  ∀ (l:Addr) (out:List (Addr × List Int)),H l=none->out.Perm ts->out.Pairwise (fun a b=>HT.lexLt b.2 a.2=false)->Q (.ref l) (upd H l (.lst (out.map fun t => .ref t.1)))):=by
 intro pins s σ H xs us Q I r h
 obtain ⟨a,ts,rfl,hs,ht,hl,q⟩:=h
 obtain ⟨u,rfl,ru⟩:=vals1 r
 cases (show u=Value.ref a from ru)
 obtain ⟨es,S,rv⟩:=I.d8 hs
 have ei:=eJ rv
 have lz:es.size=ts.length:=by have:=rv.length; simp at this; omega
 have tup:∀ t ∈ ts,Srt.dI s.heap (Value.ref t.1) t.2:=fun t hm=>by
  obtain ⟨jts,jr,⟨jo,je,jc,jn,jd⟩,_⟩:=I.tuple (ht t hm).1
  exact ⟨t.1,jo,_,jn,rfl,je,jc,jd,by simpa using cS jr⟩
 have hv:∀ v ∈ es.toList.map (·.2),∃ ns,Srt.dI s.heap v ns/\ns ≠ []:=fun v hv=>by
  rw [ei] at hv
  obtain ⟨t,hm,rfl⟩:=Bc.mp hv
  exact ⟨t.2,tup t hm,(ht t hm).2⟩
 refine STab.qL (O:=Srt.lexOrd) (key:=Srt.de s.heap) hh S (by omega) (fun vs pv=>Srt.ij fun v hm=>hv v (pv.mem_iff.mp hm)) fun h' l out m k hl' el pm ps => ?_
 rw [ei] at pm
 obtain ⟨out',pm',rfl⟩:=j9 pm
 have z:ts.length<=sizeLine:=by have:300<=sizeLine:=(by rw [sizeLine_eq]; omega); omega
 refine ⟨.ref l,_,I.newList k hl' el gs (by rw [AM,pm'.length_eq]; exact z),rfl,q l _ (I.hok.fresh hl') pm' ?_⟩
 refine (BQ.mp ps).imp_of_mem fun {a b} ha hb le => ?_
 have le':HT.lexLt (Srt.de s.heap (Value.ref b.1)) (Srt.de s.heap (Value.ref a.1))=false:=le
 rw [(tup a (pm'.mem_iff.mp ha)).ints,(tup b (pm'.mem_iff.mp hb)).ints] at le'
 exact le'
end
open PySem PySem.Spec PyProof.Rows
section
variable {X:Cx} {w:World}
theorem ko (hw:X.w=w) (hh:X.A.handled=none) (hu:X.A.units + 64 < cLine):bJ X (.type "set") (fun xs H Q=>∃ (p:Addr) (ts:List (Addr × List Int)),xs=[.ref p]/\(SqL X.K H p (ts.map fun t => .ref t.1)\/SqT X.K H p (ts.map fun t => .ref t.1))/\(∀ t ∈ ts,SqT X.K H t.1 (t.2.map V.int))/\ts.length < 300 ∧
  ∀ (a:Addr) (us:List (Addr × List Int)),H a=none->(∀ t ∈ us,t ∈ ts)->(us.map (·.2)).Nodup->(∀ t ∈ ts,t.2 ∈ us.map (·.2))->us.length<=ts.length->Q (.ref a) (upd H a (d8 w a (us.map fun t => .ref t.1)))):=by
 subst hw
 exact tW hh hu
theorem qM (hw:X.w=w) (hh:X.A.handled=none):bJ X (.type "set") (fun xs H Q=>∃ (p:Addr) (ns:List Int),xs=[.ref p]/\(SqL X.K H p (ns.map V.int)\/SqT X.K H p (ns.map V.int))/\ns.length < 300 ∧
  ∀ (a:Addr) (us:List Int),H a=none->(∀ k,k ∈ us ↔ k ∈ ns)->us.Nodup->us.length<=ns.length->Q (.ref a) (upd H a (d8 w a (us.map V.int)))):=by
 subst hw
 exact tX hh
theorem fN (hw:X.w=w) (hh:X.A.handled=none):bJ X (.builtin "sorted") (fun xs H Q=>∃ (a:Addr) (ts:List (Addr × List Int)),xs=[.ref a]/\H a=some (d8 w a (ts.map fun t => .ref t.1))/\(∀ t ∈ ts,SqT X.K H t.1 (t.2.map V.int)/\t.2 ≠ [])/\ts.length < 300 ∧
  ∀ (l:Addr) (out:List (Addr × List Int)),H l=none->out.Perm ts->out.Pairwise (fun a b=>HT.lexLt b.2 a.2=false)->Q (.ref l) (upd H l (.lst (out.map fun t => .ref t.1)))):=by
 subst hw
 exact lI hh
end
open PySem PySem.Spec PyProof.Rows
section
variable {X:Cx}
def tBMT (r:V->List V->Hp->VK->Prop) (to:TE) (t:TA):TE:=fun σ H Q=>to σ H fun x H1=>(∃ p xs,x = .ref p/\H1 p=some (.tup xs))/\t σ H1 fun xs H2=>r x xs H2 Q
theorem nN {o e:Expr} {es:List Expr} {to:TE} {t:TA} {name:Str} {apos cpos:Pos} {id:String} {r:V->List V->Hp->VK->Prop} (slot:Slot "tuple" name id) (hty:typeOf (.builtin id)=pure (.type "method_descriptor")) (hm:MtR X id r) (ho:PE X o to) (ha:PA X (e :: es) t)
  (hbase:attributeBase o name X.env (eval o X.env)=eval o X.env:=by rfl)
  (hfew:((backTo cpos (starEach (e :: es) X.env)).all (fun x => !x.1) && (backToKw cpos (keywordEach [] X.env)).all (fun x=>x.1.isSome)
   && decide ((e :: es).length + ([]:List Keyword).length + (if ([]:List Keyword).isEmpty then 0 else 1) < 30))=true:=by rfl)
  (hline:(apos.endLine == cpos.line)=true:=by rfl) (hs:starEach (e :: es) X.env=(false,eval e X.env) :: starEach es X.env:=by rfl) (hplain:(backTo cpos (starEach es X.env)).any (·.1)=false:=by rfl) :
  PE X (.Call (.Attribute o name apos) (e :: es) [] cpos) (tBMT r to t):=by
 intro pins s σ H Q I h
 refine wpAny_Call_method_late hbase hfew hline rfl (thn (ho pins s σ H _ I h) fun v s1 ⟨x,H1,I1,r1,ty,q1⟩ => ?_)
 obtain ⟨p,xs,rfl,hp⟩:=ty
 cases (show v=Value.ref p from r1)
 obtain ⟨_,its,_,ob,e1,⟨c1,d1⟩,n,s1'⟩:=(show bA X.prog X.w H1 s1.heap p (.tup xs) from I1.hok p _ hp)
 refine ⟨"tuple",id,PySem.F.plainAttrs_tuple,slot,hty,⟨ob,e1,c1⟩,fun a e=>by cases e; exact ⟨ob,e1,d1⟩,?_⟩
 have hA:=ha cpos pins s1 σ H1 _ I1 q1
 rw [hs] at hA ⊢
 refine Ea (by show (false || (backTo cpos (starEach es X.env)).any (·.1))=false; rw [hplain] <;> rfl) (FH ?_)
 exact thn hA fun us s2 ⟨vs,H2,I2,r2,q2⟩=>hm pins s2 σ H2 (.ref p) vs _ us Q I2 rfl r2 q2
theorem mC {A:Around} {s:Shared} {k:Int} {t:Tok} {its:List Value} {ns:List Int} (hi:IntsAre its ns):∀ y,y ∈ its.toArray->SeqAt.EqAt A s y (.int k t) (isInt k y):=fun y hy =>
 (eq_isInt k t hi y (by simpa using hy)).at _ _
theorem tY:MtR X "tuple.count" (fun x vs H Q=>∃ (p:Addr) (ns:List Int) (k:Int),x = .ref p/\vs=[.int k]/\H p=some (.tup (ns.map V.int))/\Q (.int (ns.count k:Nat)) H):=by
 intro pins s σ H x vs v us Q I rx rv h
 obtain ⟨p,ns,k,rfl,rfl,hp,q⟩:=h
 cases rx
 obtain ⟨u,rfl,⟨t,rfl⟩⟩:=vals1 rv
 obtain ⟨z,its,r,ob,e1,⟨c1,d1⟩,n,s1⟩:=(show bA X.prog X.w H s.heap p (.tup _) from I.hok p _ hp)
 have hi:IntsAre its ns:=intsAre_of r
 obtain ⟨cls,dd,data,sl⟩:=ob
 simp only at c1 s1
 subst c1 s1
 refine call_meets CG ⟨_,e1,rfl⟩ EZ (EK _ _) (FQ p its.toArray n dd sl (.int k t) (isInt k)) ⟨e1,fun y hy=>mC hi y hy,?_⟩
 rw [show its.toArray.toList=its from rfl,countP_isInt k hi]
 exact ⟨.int _,H,I.tok _,⟨_,rfl⟩,q⟩
theorem mD:∀ {ns:List Int} {xs:List Value} {prog:Program} {w:World},IntsAre xs ns->ItemsAre (intKind prog w) ns xs
 | _,_,_,_,.nil => .nil
 | _,_,_,_,.cons n t r => .cons (intKind_is _ _ _ _) (mD r)
theorem Inv.tkA {pins:List (Addr × Obj)} {σ:St} {H:Hp} {s:Shared} (I:Inv X pins σ H s) {b:Addr} {ns:List Int} (h:SqT X.K H b (ns.map V.int)) (prog:Program) (w:World):IsTupleKey (intKind prog w) s.heap ns b:=by
 obtain ⟨its,r,⟨o,e,c,n,d⟩,_⟩:=I.tuple h
 exact ⟨o,_,n,e,c,d,mD (by simpa using intsAre_of r)⟩
theorem Inv.eqT {pins:List (Addr × Obj)} {σ:St} {H:Hp} {s:Shared} (I:Inv X pins σ H s) {A:Around} (hu:A.units < cLine) {a b:Addr} {ns ms:List Int} (h1:SqT X.K H a (ns.map V.int)) (h2:SqT X.K H b (ms.map V.int)):SeqAt.EqAt A s (.ref a) (.ref b) (decide (ns=ms)) :=
 fun prog w E Q q=>wpAny_eqBool_tuple hu (I.tkA h1 prog w) (I.tkA h2 prog w) q
theorem kq:∀ {ps:List (Addr × List Int)} {us:List Value},Vals (ps.map fun x=>V.ref x.1) us->us=ps.map fun x=>Value.ref x.1
 | [],_,r=>by cases r; rfl
 | p :: ps,_,r=>by
  cases r with
  | cons h t=>rw [Bj, <- kq t,show _=Value.ref p.1 from h]
noncomputable def nO (ts:List (Addr × List Int)) (m:List Int):Value->Bool:=fun v=>decide (∃ t ∈ ts,v = .ref t.1/\t.2=m)
theorem mE {pins:List (Addr × Obj)} {σ:St} {H:Hp} {s:Shared} (I:Inv X pins σ H s) {ts:List (Addr × List Int)} (ht:∀ t ∈ ts,SqT X.K H t.1 (t.2.map V.int)) {m:List Int} {t:Addr × List Int} (hm:t ∈ ts):nO ts m (.ref t.1)=decide (t.2=m):=by
 unfold nO
 by_cases e:t.2=m
 ·rw [decide_eq_true e,decide_eq_true ⟨t,hm,rfl,e⟩]
 ·rw [decide_eq_false e,decide_eq_false]
  rintro ⟨t',m',e1,e2⟩
  injection e1 with e1
  have:=I.iM (ht t hm) (by rw [e1]; exact ht t' m')
  have inj:Function.Injective V.int:=fun a b h=>by injection h
  have:t.2=t'.2:=(List.map_inj_right (fun x y h=>inj h)).mp this
  exact e (this.trans e2)
theorem kr {pins:List (Addr × Obj)} {σ:St} {H:Hp} {s:Shared} (I:Inv X pins σ H s) {ts:List (Addr × List Int)} (ht:∀ t ∈ ts,SqT X.K H t.1 (t.2.map V.int)) {m:List Int}:∀ us:List (Addr × List Int),(∀ t ∈ us,t ∈ ts)->(us.map fun t=>Value.ref t.1).countP (nO ts m)=(us.map (·.2)).count m
 | [],_=>rfl
 | u :: us,h=>by
  rw [Bj,Bj,List.countP_cons,Dw,kr I ht us (fun t hm=>h t (Bh _ hm)),mE I ht (h u Bg)]
  by_cases e:u.2=m
  ·rw [decide_eq_true e,e]; simp
  ·rw [decide_eq_false e]; simp [e]
theorem ku (hu:X.A.units + 8 < cLine):MtR X "tuple.count" (fun x vs H Q=>∃ (p b:Addr) (ts:List (Addr × List Int)) (m:List Int),x = .ref p/\vs=[.ref b]/\H p=some (.tup (ts.map fun t => .ref t.1))/\(∀ t ∈ ts,H t.1=some (.tup (t.2.map V.int)))/\H b=some (.tup (m.map V.int))/\Q (.int ((ts.map (·.2)).count m:Nat)) H):=by
 intro pins s σ H x vs v us Q I rx rv h
 obtain ⟨p,b,ts,m,rfl,rfl,hp,ht,hb,q⟩:=h
 cases rx
 obtain ⟨u,rfl,ru⟩:=vals1 rv
 cases (show u=Value.ref b from ru)
 have ht':∀ t ∈ ts,SqT X.K H t.1 (t.2.map V.int):=fun t hm=>SqT.of (ht t hm)
 obtain ⟨z,its,r,ob,e1,⟨c1,d1⟩,n,s1⟩:=(show bA X.prog X.w H s.heap p (.tup _) from I.hok p _ hp)
 have ei:=kq r
 obtain ⟨cls,dd,data,sl⟩:=ob
 simp only at c1 s1
 subst c1 s1
 refine call_meets CG ⟨_,e1,rfl⟩ EZ (EK _ _) (FQ p its.toArray n dd sl (.ref b) (nO ts m)) ⟨e1,fun y hy => ?_,?_⟩
 ·have hy':y ∈ its:=by simpa using hy
  rw [ei] at hy'
  obtain ⟨t,hm,rfl⟩:=Bc.mp hy'
  rw [mE I ht' hm]
  exact I.eqT (by show X.A.units + 1 < cLine; omega) (ht' t hm) (SqT.of hb)
 ·rw [show its.toArray.toList=its from rfl,ei,kr I ht' ts (fun t h=>h)]
  exact ⟨.int _,H,I.tok _,⟨_,rfl⟩,q⟩
theorem fO:∀ {its:List Value} {ns:List Int},IntsAre its ns->∃ xs:List (Int × Tok),its=xs.map (fun p=>Value.int p.1 p.2)/\xs.map (·.1)=ns
 | _,_,.nil=>⟨[],rfl,rfl⟩
 | _,_,.cons n t r=>by
  obtain ⟨xs,e1,e2⟩:=fO r
  exact ⟨(n,t) :: xs,by rw [Bj, <- e1],by rw [Bj,e2]⟩
theorem vn (hh:X.A.handled=none):bJ X (.builtin "sum") (fun xs H Q=>∃ (p:Addr) (ns:List Int),xs=[.ref p]/\H p=some (.lst (ns.map V.int))/\Q (.int ns.sum) H):=by
 intro pins s σ H xs us Q I r h
 obtain ⟨p,ns,rfl,hp,q⟩:=h
 obtain ⟨u,rfl,ru⟩:=vals1 r
 cases (show u=Value.ref p from ru)
 obtain ⟨z,its,n,r,e1⟩:=(show bA X.prog X.w H s.heap p (.lst _) from I.hok p _ hp)
 obtain ⟨zs,e2,e3⟩:=fO (intsAre_of r)
 have ei:its.toArray=intItems zs.toArray:=by rw [e2]; simp [intItems]
 refine sum_intListG hh (xs:=zs.toArray) ⟨_,e1,rfl,n,by rw [ei]⟩ fun h' tk t' k => ?_
 rw [preSum_eq,A7 (by simp),e3]
 exact ⟨.int _,H,I.kept k,⟨_,rfl⟩,q⟩
end
end L2
namespace HT
open PySem PySem.Spec PyProof.Rows
section
variable {prog:Program} {w:World} {A:Around} {E:Value->Shared->Prop} {s:Shared}
theorem gH {t sl:Addr} {items:Array Value} {vl vu:Value} {lo hi:Option Int} {Q:Value->Shared->Prop} (ht:IsTup s.heap t items) (hs:s.heap.IsSliceOf sl vl vu .none) (pl:IsPart vl lo) (pu:IsPart vu hi)
  (hw:sIx items.size 0 lo=0/\sIx items.size items.size hi=items.size) (h:Q (.ref t) s):wpAny (model prog w) A (getItem (.ref t) (.ref sl)) Q E s:=by
 obtain ⟨os,hos,hcs,hds⟩:=id hs
 have hTs:s.TypeIs (.ref sl) "slice" := ⟨os,hos,hcs⟩
 unfold getItem
 try with_reducible refine wpAny_holding ?_
 first | refine wpAny_bind (wpAny_pure ?_) | skip
 refine wpAny_bind (wpAny_sequenceKey ht.typeIs (by decide) ?_)
 refine wpAny_bind (wpAny_callSpecial?_slot (name:=Str.ofString "__getitem__") ht.typeIs BI
  (wpAny_call_entry BI ht.typeIs entry_tuple_getitem ?_ (args_tuple_getitem _ _)))
 show wpAny _ _ (Builtin.Tuple.tupleItemsOf (.ref t) >>= _) _ _ s
 refine wpAny_bind (tupleItemsOf_ ht ?_)
 refine wpAny_bind (wpAny_typeOf hTs ?_)
 rw [if_pos (by decide)]
 refine wpAny_bind (eG hs pl pu ?_)
 show wpAny _ _ (if (((sIx items.size 0 lo:Nat):Int) == 0 && (1:Int) == 1 && (sIx items.size items.size hi - sIx items.size 0 lo) == items.size)=true then _ else _) _ _ s
 rw [hw.1,hw.2,if_pos (by simp)]
 unfold Builtin.Tuple.tupleIsExact
 refine wpAny_bind (wpAny_bind (wpAny_typeOf ht.typeIs (wpAny_pure ?_)))
 rw [if_pos (by decide)]
 exact wpAny_bind (wpAny_rule (wpAny_pure ⟨_,rfl,wpAny_pure h⟩))
end
end HT
namespace L2
open PySem PySem.Spec PyProof.Rows
section
variable {X:Cx}
theorem xC:SlR X (fun x lo hi H Q=>∃ a xs,x = .ref a/\SqT X.K H a xs/\((HT.sIx xs.length 0 lo=0/\HT.sIx xs.length xs.length hi=xs.length)->Q (.ref a) H) ∧
  (¬ (HT.sIx xs.length 0 lo=0/\HT.sIx xs.length xs.length hi=xs.length)->∀ p,H p=none->Q (.ref p) (upd H p (.tup (fD xs lo hi))))):=by
 intro pins s σ H x v vl vu lo hi sl Q I rx hs pl pu h
 obtain ⟨a,xs,rfl,hx,q1,q2⟩:=h
 by_cases hw:HT.sIx xs.length 0 lo=0/\HT.sIx xs.length xs.length hi=xs.length
 ·cases rx
  obtain ⟨its,r,ht,hz⟩:=I.tuple hx
  have hlen:its.toArray.size=xs.length:=by rw [AR]; exact r.length.symm
  refine ⟨"tuple",_,BI.lookup,ht.typeIs,?_⟩
  exact HT.gH ht hs pl pu (by rw [hlen]; exact hw) ⟨.ref a,H,I,rfl,q1 hw⟩
 ·exact yZ pins s σ H _ v vl vu lo hi sl Q I rx hs pl pu ⟨a,xs,rfl,hx,hw,q2 hw⟩
theorem js:bJ X (.type "range") (fun xs H Q=>∃ n:Int,xs=[.int n]/\∀ a,H a=none->Q (.ref a) (upd H a (.rng 0 n))):=by
 intro pins s σ H xs us Q I r h
 obtain ⟨n,rfl,q⟩:=h
 obtain ⟨u,rfl,⟨t,rfl⟩⟩:=vals1 r
 refine call_range_1 ?_
 exact ⟨.ref s.heap.objs.size,_,I.laid (o := .rng 0 n) (fun b ob q=>AN _ q) (AS _) ⟨_,_,_,A0 _ rfl⟩,rfl,q _ (I.hok.fresh (AS _))⟩
end
section
variable {prog:Program} {w:World} {A:Around} {E:Value->Shared->Prop} {s:Shared}
end
section
variable {X:Cx}
theorem qN:∀ {vs:List Value},(∀ (i:Nat) (x:Value),vs[i]? = some x->∃ t,x=Value.int i t)->Vals ((List.range vs.length).map fun i=>V.int (i:Nat)) vs:=by
 suffices h:∀ (vs:List Value) (k:Nat),(∀ (i:Nat) (x:Value),vs[i]? = some x->∃ t,x=Value.int ((i + k:Nat):Int) t)->Vals ((List.range' k vs.length).map fun i=>V.int (i:Nat)) vs by
  intro vs hv
  have:=h vs 0 hv
  rw [List.range_eq_range']
  exact this
 intro vs
 induction vs with
 | nil=>intro k _; exact .nil
 | cons x vs ih =>
  intro k hv
  rw [Bn,Fj,Bj]
  refine .cons ?_ (ih (k + 1) fun i y hy => ?_)
  ·obtain ⟨t,e⟩:=hv 0 x rfl
   exact ⟨t,by rw [e,De]⟩
  ·obtain ⟨t,e⟩:=hv (i + 1) y (by rw [Cm]; exact hy)
   exact ⟨t,by rw [e,show i + 1 + k=i + (k + 1) by omega]⟩
end
open PySem PySem.Spec PyProof.Rows
section
variable {κ : Type} [DecidableEq κ]
def cy (kvs:List (κ × V)) (k : κ):Option V:=(kvs.find? fun kv=>decide (kv.1=k)).map (·.2)
def putK (kvs:List (κ × V)) (k : κ) (v:V):List (κ × V) :=
 if (kvs.any fun kv=>decide (kv.1=k))=true then kvs.map (fun kv=>if kv.1=k then (kv.1,v) else kv) else kvs ++ [(k,v)]
theorem bZ {p : κ × V} {r:List (κ × V)} {k : κ} (e:p.1=k):cy (p :: r) k=some p.2:=by simp [cy,Dx,e]
theorem cb {p : κ × V} {r:List (κ × V)} {k : κ} (e:¬ p.1=k):cy (p :: r) k=cy r k:=by simp [cy,Dx,e]
theorem fP (k : κ):∀ kvs:List (κ × V),(kvs.any fun kv=>decide (kv.1=k))=(cy kvs k).isSome
 | []=>rfl
 | p :: r=>by
  rw [Ga]
  by_cases e:p.1=k
  ·simp only [bZ e,decide_eq_true e,Bool.true_or,Option.isSome_some]
  ·rw [cb e,decide_eq_false e,Bool.false_or]; exact fP k r
theorem pf (k j : κ) (y:V):∀ kvs:List (κ × V),cy (kvs.map fun kv=>if kv.1=k then (kv.1,y) else kv) j=(cy kvs j).map fun x=>if j=k then y else x
 | []=>rfl
 | p :: r=>by
  have ih:=pf k j y r
  rw [Bj]
  by_cases h:p.1=k
  ·rw [if_pos h]
   by_cases e:p.1=j
   ·rw [bZ (p:=(p.1,y)) e,bZ e,C8,if_pos (e.symm.trans h)]
   ·rw [cb (p:=(p.1,y)) e,cb e,ih]
  ·rw [if_neg h]
   by_cases e:p.1=j
   ·rw [bZ (p:=p) e,bZ e,C8,if_neg (fun z=>h (e.trans z))]
   ·rw [cb (p:=p) e,cb e,ih]
theorem mF (k j : κ) (y:V):∀ kvs:List (κ × V),cy kvs k=none->cy (kvs ++ [(k,y)]) j=if j=k then some y else cy kvs j
 | [],_=>by
  by_cases e:k=j
  ·rw [if_pos e.symm]; exact bZ (p:=(k,y)) e
  ·rw [if_neg (fun z=>e z.symm)]; exact cb (p:=(k,y)) e
 | p :: r,hn=>by
  rw [Gz]
  have hk:¬ p.1=k:=fun z=>by rw [bZ z] at hn; cases hn
  rw [cb hk] at hn
  have ih:=mF k j y r hn
  by_cases e:p.1=j
  ·rw [bZ e,bZ e,if_neg (fun z=>hk (e.trans z))]
  ·rw [cb e,cb e,ih]
theorem vo (kvs:List (κ × V)) (k j : κ) (y:V):cy (putK kvs k y) j=if j=k then some y else cy kvs j:=by
 unfold putK
 by_cases a:(kvs.any fun kv=>decide (kv.1=k))=true
 ·rw [if_pos a,pf]
  rw [fP] at a
  by_cases e:j=k
  ·obtain ⟨x,hx⟩:=DQ.mp a
   rw [if_pos e,e,hx,C8,if_pos rfl]
  ·rw [if_neg e]
   cases cy kvs j with
   | none=>rfl
   | some x=>rw [C8,if_neg e]
 ·rw [if_neg a]
  refine mF k j y kvs ?_
  rw [fP] at a
  cases q:cy kvs k with
  | none=>rfl
  | some x=>rw [q] at a; exact (a rfl).elim
theorem fQ (kvs:List (κ × V)) (k : κ) (v:V):(putK kvs k v).length<=kvs.length + 1:=by
 unfold putK
 split
 ·rw [AM]; omega
 ·rw [AQ,Bn,CB]; omega
theorem vq {kvs:List (κ × V)} {k : κ} (v:V) (h:cy kvs k=none):putK kvs k v=kvs ++ [(k,v)]:=by
 unfold putK
 rw [fP,h]
 exact if_neg (by decide)
theorem jM.eO {o:Option V} {u:Option Value} (r:jM o u):o.isSome=u.isSome:=by
 cases o with
 | none=>cases u with
  | none=>rfl
  | some _=>exact (show False from r).elim
 | some _=>cases u with
  | none=>exact (show False from r).elim
  | some _=>rfl
theorem KV.val {kvs:List (κ × V)} {vs:List (κ × Value)} (r:KV kvs vs) (k : κ):jM (cy kvs k) (valueAt vs k):=by
 unfold KV at r
 induction r with
 | nil=>exact True.intro
 | @cons p q ps qs h t ih =>
  obtain ⟨h1,h2⟩:=h
  by_cases e:p.1=k
  ·have e':q.1=k:=h1.symm.trans e
   have b:valueAt (q :: qs) k=some q.2:=by simp [valueAt,Dx,e']
   rw [bZ e,b]; exact h2
  ·have e':¬ q.1=k:=fun z=>e (h1.trans z)
   have b:valueAt (q :: qs) k=valueAt qs k:=by simp [valueAt,Dx,e']
   rw [cb e,b]; exact ih
theorem KV.any {kvs:List (κ × V)} {vs:List (κ × Value)} (r:KV kvs vs) (k : κ):(kvs.any fun kv=>decide (kv.1=k))=vs.any fun kv=>decide (kv.1=k):=by
 unfold KV at r
 induction r with
 | nil=>rfl
 | cons h t ih=>rw [Ga,Ga,ih,h.1]
theorem KV.zy {kvs:List (κ × V)} {vs:List (κ × Value)} (r:KV kvs vs) (k : κ) {y:V} {u:Value} (ry:RelV y u) :
  KV (kvs.map fun kv=>if kv.1=k then (kv.1,y) else kv) (vs.map fun kv=>if kv.1=k then (kv.1,u) else kv):=by
 unfold KV at r ⊢
 induction r with
 | nil=>exact .nil
 | @cons p q ps qs h t ih =>
  rw [Bj,Bj]
  refine .cons ?_ ih
  obtain ⟨h1,h2⟩:=h
  by_cases e:p.1=k
  ·rw [if_pos e,if_pos (h1.symm.trans e)]; exact ⟨h1,ry⟩
  ·rw [if_neg e,if_neg (fun z=>e (h1.trans z))]; exact ⟨h1,h2⟩
theorem KV.put {kvs:List (κ × V)} {vs:List (κ × Value)} (r:KV kvs vs) (k : κ) {y:V} {u:Value} (ry:RelV y u):KV (putK kvs k y) (stored vs k u):=by
 unfold putK stored
 rw [r.any k]
 by_cases e:(vs.any fun kv=>decide (kv.1=k))=true
 ·rw [if_pos e,if_pos e]; exact r.zy k ry
 ·rw [if_neg e,if_neg e]; exact Hh r ⟨rfl,ry⟩
theorem KV.length {kvs:List (κ × V)} {vs:List (κ × Value)} (r:KV kvs vs):kvs.length=vs.length:=Dy r
end
theorem mG {P:Program} {w:World} {k:Key} {u:Value} (r:RelV (kV k) u):(bN P w).is k u=true:=by
 cases k with
 | inl i=>obtain ⟨t,e⟩:=(show ∃ t,u=Value.int i t from r); subst e; exact ow P w i t
 | inr x=>obtain ⟨t,e⟩:=(show ∃ t,u=Value.str x t from r); subst e; exact ox P w x t
theorem mH {P:Program} {w:World}:∀ {ks:List Key} {us:List Value},Vals (ks.map kV) us->ItemsAre (bN P w) ks us
 | [],_,r=>by rw [DS] at r; cases r; exact .nil
 | k :: ks,_,r=>by
  rw [Bj] at r
  cases r with
  | cons h t=>exact .cons (mG h) (mH t)
abbrev KT (H:Hp):List (List Key × V)->List (List Key × Addr × Value)->Prop:=Paired fun p q=>p.1=q.1/\H q.2.1=some (.tup (p.1.map kV))/\RelV p.2 q.2.2
theorem KT.val {H:Hp} {kvs:List (List Key × V)} {xs:List (List Key × Addr × Value)} (r:KT H kvs xs) (k:List Key):jM (cy kvs k) ((atKey xs k).map (·.2)):=by
 induction r with
 | nil=>exact True.intro
 | @cons p q ps qs h t ih =>
  obtain ⟨h1,_,h2⟩:=h
  by_cases e:p.1=k
  ·have e':q.1=k:=h1.symm.trans e
   have b:atKey (q :: qs) k=some q.2:=by simp [atKey,Dx,e']
   rw [bZ e,b]; exact h2
  ·have e':¬ q.1=k:=fun z=>e (h1.trans z)
   have b:atKey (q :: qs) k=atKey qs k:=by simp [atKey,Dx,e']
   rw [cb e,b]; exact ih
theorem KT.zy {H:Hp} {kvs:List (List Key × V)} {xs:List (List Key × Addr × Value)} (r:KT H kvs xs) (k:List Key) {y:V} {u:Value} (ry:RelV y u) :
  KT H (kvs.map fun kv=>if kv.1=k then (kv.1,y) else kv) (xs.map (putAt k u)):=by
 induction r with
 | nil=>exact .nil
 | @cons p q ps qs h t ih =>
  rw [Bj,Bj]
  refine .cons ?_ ih
  obtain ⟨h1,h2,h3⟩:=h
  unfold putAt
  by_cases e:p.1=k
  ·rw [if_pos e,if_pos (h1.symm.trans e)]; exact ⟨h1,h2,ry⟩
  ·rw [if_neg e,if_neg (fun z=>e (h1.trans z))]; exact ⟨h1,h2,h3⟩
theorem KT.put {H:Hp} {kvs:List (List Key × V)} {xs:List (List Key × Addr × Value)} (r:KT H kvs xs) (k:List Key) {b:Addr} {y:V} {u:Value} (hb:H b=some (.tup (k.map kV))) (ry:RelV y u) :
  KT H (putK kvs k y) (storedH xs k b u):=by
 have e:(kvs.any fun kv=>decide (kv.1=k))=(atKey xs k).isSome:=by
  rw [fP,(r.val k).eO,E6]
 unfold putK storedH
 rw [e]
 by_cases q:(atKey xs k).isSome=true
 ·rw [if_pos q,if_pos q]; exact r.zy k ry
 ·rw [if_neg q,if_neg q]; exact Hh r ⟨rfl,hb,ry⟩
theorem KT.keeps {H H':Hp} {kvs:List (List Key × V)} {xs:List (List Key × Addr × Value)} (r:KT H kvs xs) (ht:∀ b ys,H b=some (.tup ys)->H' b=some (.tup ys)):KT H' kvs xs :=
 Paired.yF r fun _ _ z=>⟨z.1,ht _ _ z.2.1,z.2.2⟩
section
variable {P:Program} {w:World} {H:Hp} {h:Heap} {a:Addr}
theorem yp {u:HO} (ok:HOk P w H h) (e:Rd H a u):bA P w H h a u:=e.ok ok
theorem ph {kvs:List (Key × V)} (ok:HOk P w H h) (e:Rd H a (.dK kvs)):kvs.length<=sizeLine/\(a == sysModules)=false/\∃ vs,KV kvs vs/\h.DictOf (bN P w) a vs :=
 show bA P w H h a (.dK kvs) from yp ok e
theorem vt {kvs:List (Key × V)} (ok:HOk P w H h) (e:H a=some (.dK kvs)):kvs.length<=sizeLine/\(a == sysModules)=false/\∃ vs,KV kvs vs/\h.DictOf (bN P w) a vs:=ph ok (.inl e)
theorem kz {ks:List Key} (ok:HOk P w H h) (e:H a=some (.tup (ks.map kV))):(tupleKind (bN P w)).is h ks a:=by
 obtain ⟨_,its,r,o,h1,h2,n,h3⟩:=(show bA P w H h a (.tup (ks.map kV)) from ok a _ e)
 exact ⟨o,its.toArray,n,h1,h2.1,h3,by simpa using mH r⟩
theorem pk {kvs:List (List Key × V)} (ok:HOk P w H h) (e:Rd H a (.dT kvs)):kvs.length<=sizeLine/\(a == sysModules)=false ∧
  ∃ xs,KT H kvs xs/\h.DictOfH (tupleKind (bN P w)) a xs:=by
 obtain ⟨z,y,xs,r,o,es,ep,h1,h2,h3,h4,h5⟩:=(show bA P w H h a (.dT kvs) from yp ok e)
 refine ⟨z,y,xs,r,o,es,ep,h1,h2,h3,h4,fun x hx => ?_,h5⟩
 have all:∀ {l:List (List Key × V)} {m:List (List Key × Addr × Value)},KT H l m->∀ x ∈ m,(tupleKind (bN P w)).is h x.1 x.2.1:=by
  intro l m q
  induction q with
  | nil=>intro x hx; exact nomatch hx
  | @cons p q ps qs hq t ih =>
   intro x hx
   rcases A6.mp hx with e | hx
   ·subst e
    exact kz ok (by rw [<- hq.1]; exact hq.2.1)
   ·exact ih x hx
 exact all r x hx
theorem Av {kvs:List (List Key × V)} (ok:HOk P w H h) (e:H a=some (.dT kvs)):kvs.length<=sizeLine/\(a == sysModules)=false ∧
  ∃ xs,KT H kvs xs/\h.DictOfH (tupleKind (bN P w)) a xs:=pk ok (.inl e)
end
def fE (H:Hp) (a:Addr) (y:V) (r:Option V):Prop :=
 (∃ kvs k,Rd H a (.dK kvs)/\y=kV k/\r=cy kvs k)\/∃ kvs k b,Rd H a (.dT kvs)/\y = .ref b/\H b=some (.tup (k.map kV))/\r=cy kvs k
def nP (H:Hp) (a:Addr) (y v:V) (H':Hp):Prop :=
 (∃ kvs k,H a=some (.dK kvs)/\y=kV k/\kvs.length < sizeLine/\H'=upd H a (.dK (putK kvs k v))) ∨
 ∃ kvs k b,H a=some (.dT kvs)/\y = .ref b/\H b=some (.tup (k.map kV))/\kvs.length < sizeLine/\H'=upd H a (.dT (putK kvs k v))
theorem fE.k {H:Hp} {a:Addr} {kvs:List (Key × V)} {k:Key} (e:H a=some (.dK kvs)):fE H a (kV k) (cy kvs k) := .inl ⟨kvs,k,.inl e,rfl,rfl⟩
theorem nP.k {H:Hp} {a:Addr} {kvs:List (Key × V)} {k:Key} {v:V} (e:H a=some (.dK kvs)) (hl:kvs.length < sizeLine):nP H a (kV k) v (upd H a (.dK (putK kvs k v))) := .inl ⟨kvs,k,e,rfl,hl,rfl⟩
section
variable {X:Cx} {pins:List (Addr × Obj)} {σ:St} {H:Hp} {s:Shared} {a:Addr} {y v:V} {u r:Value} {o:Option V} {A:Around} {E:Value->Shared->Prop}
theorem Inv.big (I:Inv X pins σ H s):sysModules < s.heap.objs.size:=by
 have h:mainGlobals < s.heap.objs.size:=(I.mod.glob.keeps I.bk).lt
 exact Nat.lt_trans (by decide) h
theorem tZ {Q:Value->Shared->Prop} (hu:A.units + 1 < cLine) (I:Inv X pins σ H s) (g:fE H a y (some v)) (ry:RelV y u) (h:∀ w' s',Inv X pins σ H s'->RelV v w'->Q w' s') :
  wpAny (model X.prog X.w) A (getItem (.ref a) u) Q E s:=by
 rcases g with ⟨kvs,k,e,ey,l⟩ | ⟨kvs,k,b,e,ey,eb,l⟩
 ·subst ey
  obtain ⟨z,hd,vs,rel,dd⟩:=ph I.hok e
  obtain ⟨w',hw,rw'⟩:=jM.some_of (v:=v) (o:=valueAt vs k) (by rw [l]; exact rel.val k)
  exact wpAny_getItem_of (mG ry) dd.mapOf hw (h w' _ (I.tok _) rw')
 ·subst ey
  cases (show u=Value.ref b from ry)
  obtain ⟨z,hd,xs,rel,dd⟩:=pk I.hok e
  obtain ⟨w',hw,rw'⟩:=jM.some_of (v:=v) (o:=(atKey xs k).map (·.2)) (by rw [l]; exact rel.val k)
  obtain ⟨p,hp,hp2⟩:=Cr.mp hw
  refine wpAny_getItem_heap (tupleKind_room_in1 hu) (kz I.hok eb) dd hp ?_
  rw [hp2]
  exact h w' _ (I.tok _) rw'
theorem d_in {Q:Value->Shared->Prop} (hu:A.units + 1 < cLine) (I:Inv X pins σ H s) (g:fE H a y o) (ry:RelV y u) (h:∀ s',Inv X pins σ H s'->Q (.bool o.isSome) s') :
  wpAny (model X.prog X.w) A (compareOp .In u (.ref a)) Q E s:=by
 rcases g with ⟨kvs,k,e,ey,l⟩ | ⟨kvs,k,b,e,ey,eb,l⟩
 ·subst ey
  obtain ⟨z,hd,vs,rel,dd⟩:=ph I.hok e
  refine wpAny_in_of (mG ry) hd dd.mapOf ?_
  rw [<- (rel.val k).eO, <- l]
  exact h _ (I.tok _)
 ·subst ey
  cases (show u=Value.ref b from ry)
  obtain ⟨z,hd,xs,rel,dd⟩:=pk I.hok e
  refine wpAny_in_heap (tupleKind_room_in1 hu) (kz I.hok eb) hd dd ?_
  have q:=(rel.val k).eO
  rw [E6] at q
  rw [<- q, <- l]
  exact h _ (I.tok _)
theorem xD {Q:Value->Shared->Prop} (hu:A.units + 1 < cLine) (I:Inv X pins σ H s) (g:fE H a y o) (ry:RelV y u) (h:∀ s',Inv X pins σ H s'->Q (.bool (!o.isSome)) s') :
  wpAny (model X.prog X.w) A (compareOp .NotIn u (.ref a)) Q E s:=by
 rcases g with ⟨kvs,k,e,ey,l⟩ | ⟨kvs,k,b,e,ey,eb,l⟩
 ·subst ey
  obtain ⟨z,hd,vs,rel,dd⟩:=ph I.hok e
  refine wpAny_notIn_of (mG ry) hd dd.mapOf ?_
  rw [<- (rel.val k).eO, <- l]
  exact h _ (I.tok _)
 ·subst ey
  cases (show u=Value.ref b from ry)
  obtain ⟨z,hd,xs,rel,dd⟩:=pk I.hok e
  refine wpAny_notIn_heap (tupleKind_room_in1 hu) (kz I.hok eb) hd dd ?_
  have q:=(rel.val k).eO
  rw [E6] at q
  rw [<- q, <- l]
  exact h _ (I.tok _)
theorem nQ {h':Heap} {t':Nat} {ob:HO} (I:Inv X pins σ H s) (mu:Mut (H a)) (hs:Heap.SameBut a s.heap h') (he:∃ q,h'.get? a=some q) (new:bA X.prog X.w (upd H a ob) h' a ob) :
  Inv X pins σ (upd H a ob) { s with heap:=h',toks:=t' } :=
 I.write (x:=a) (e:=a) mu (.inl rfl) (fun b q hb z=>(hs.2 b hb).trans z) he new
theorem vv {P:Program} {w:World} {H':Hp} {h':Heap} {kvs:List (Key × V)} {vs:List (Key × Value)} (z:kvs.length<=sizeLine) (hd:(a == sysModules)=false) (rel:KV kvs vs) (dd:h'.DictOf (bN P w) a vs) :
  bA P w H' h' a (.dK kvs):=⟨z,hd,vs,rel,dd⟩
theorem t4 {H':Hp} {Q:Unit->Shared->Prop} (hu:A.units + 1 < cLine) (I:Inv X pins σ H s) (g:nP H a y v H') (ry:RelV y u) (rv:RelV v r) (h:∀ s',Inv X pins σ H' s'->Q () s') :
  wpAny (model X.prog X.w) A (setItem (.ref a) u r) Q E s:=by
 rcases g with ⟨kvs,k,e,ey,l,eH⟩ | ⟨kvs,k,b,e,ey,eb,l,eH⟩
 ·subst ey eH
  obtain ⟨z,hd,vs,rel,dd⟩:=vt I.hok e
  have hz:vs.length<=sizeLine:=by rw [<- rel.length]; exact z
  have hl:(putK kvs k v).length<=sizeLine:=by have:=fQ kvs k v; omega
  refine wpAny_setItem_pairs (hsz:=hz) (mG ry) dd fun h' dd' hs=>h _ ?_
  have he:∃ q,h'.get? a=some q:=let ⟨q,_,_,hq,_⟩:=dd'; ⟨q,hq⟩
  exact nQ I (by rw [e]; exact True.intro) hs he (vv hl hd (rel.put k rv) dd')
 ·subst ey eH
  cases (show u=Value.ref b from ry)
  obtain ⟨z,hd,xs,rel,dd⟩:=Av I.hok e
  have hz:xs.length<=sizeLine:=by rw [<- Dy rel]; exact z
  have hl:(putK kvs k v).length<=sizeLine:=by have:=fQ kvs k v; omega
  refine wpAny_setItem_heap (hsz:=hz) (tupleKind_room_in1 hu) (kz I.hok eb) dd fun h' dd' hs=>h _ ?_
  obtain ⟨q,es,ep,hq,h2,h3,h4,_,h5⟩:=dd'
  refine nQ I (by rw [e]; exact True.intro) hs ⟨q,hq⟩ ⟨hl,hd,_,(rel.put k eb rv).keeps fun c ys ec => ?_,q,es,ep,hq,h2,h3,h4,h5⟩
  rw [aE (gK ec e (fun z=>nomatch z))]
  exact ec
end
section
variable {X:Cx} {pins:List (Addr × Obj)} {σ:St} {H:Hp} {s:Shared} {a:Addr} {kvs:List (Key × V)} {k:Key} {u:Value} {A:Around} {E:Value->Shared->Prop}
end
def Aw (i:Expr):Prop:=∀ ov iv,subscripted i false ov iv=operate [ov,iv] (getItem ov iv)
theorem xE {prog:Program} {w:World} {A:Around} {E:Value->Shared->Prop} {s:Shared} {env:Env} {value slice:Expr} {pos:Pos} {T id:String} {Q:Value->Shared->Prop}
  (hl:typeLookup (.type T) "__getitem__" = pure (some (.builtin id))) (hs:Aw slice)
  (h:wpAny (model prog w) A (eval value env) (fun o s₁=>wpAny (model prog w) A (eval slice env) (fun i s₂=>s₂.TypeIs o T/\wpAny (model prog w) A (getItem o i) Q E s₂) E s₁) E s) :
  wpAny (model prog w) A (eval (.Subscript value slice pos) env) Q E s:=by
 refine Subscript_ (wpAny_mono h (fun o s₁ h₁=>wpAny_mono h₁ (fun i s₂ h₂ => ?_) fun _ _ x=>x) fun _ _ x=>x)
 obtain ⟨hT,h₂⟩:=h₂
 unfold subscriptTail
 refine wpAny_bind ?_
 rw [getitemInPython_of_ne hT.not_modules]
 refine wpAny_bind (wpAny_specialOf hT hl ?_)
 have fin:wpAny (model prog w) A (subscripted slice false o i) (fun r s₃=>wpAny (model prog w) A (letTemporaryGo value o r >>= fun _=>pure r) Q E s₃) E s₂:=by
  rw [hs o i]
  exact wpAny_operating (wpAny_mono h₂ (fun r s₃ h₃=>wpAny_bind (wpAny_letTemporaryGo (wpAny_pure h₃))) fun _ _ x=>x)
 first
  | exact wpAny_pure (wpAny_bind fin)
  | exact wpAny_bind (wpAny_pure (wpAny_bind fin))
  | exact wpAny_bind fin
theorem pq {X:Cx} {pins:List (Addr × Obj)} {σ:St} {H:Hp} {s:Shared} {a:Addr} {y:V} {o:Option V} (I:Inv X pins σ H s) (g:fE H a y o):s.TypeIs (.ref a) "dict" := by
 rcases g with ⟨kvs,k,e,_,_⟩ | ⟨kvs,k,b,e,_,_,_⟩
 ·obtain ⟨_,_,vs,_,dd⟩:=ph I.hok e
  exact dd.typeIs
 ·obtain ⟨_,_,xs,_,dd⟩:=pk I.hok e
  exact dd.typeIs
def Ax (td ty:TE):TE:=fun σ H Q=>td σ H fun x H1=>ty σ H1 fun y H2=>∃ a v,x = .ref a/\fE H2 a y (some v)/\Q v H2
def tDIn (ty td:TE):TE:=fun σ H Q=>ty σ H fun y H1=>td σ H1 fun x H2=>∃ a o,x = .ref a/\fE H2 a y o/\Q (.bl o.isSome) H2
def xF (ty td:TE):TE:=fun σ H Q=>ty σ H fun y H1=>td σ H1 fun x H2=>∃ a o,x = .ref a/\fE H2 a y o/\Q (.bl (!o.isSome)) H2
def Ay (td ty tv:TE):TS:=fun D σ H=>tv σ H fun v H1=>td σ H1 fun x H2=>ty σ H2 fun y H3=>∃ a H4,x = .ref a/\nP H3 a y v H4/\D.nx σ H4
section
variable {X:Cx} {o i e value:Expr} {pos pos' tpos:Pos} {td ty tv:TE}
theorem nR (hu:X.A.units + 1 < cLine) (ho:PE X o td) (hi:PE X i ty) (hs:Aw i):PE X (.Subscript o i pos) (Ax td ty):=by
 intro pins s σ H Q I h
 refine xE PySem.F.slot_dict_getitem.lookup hs (thn (ho pins s σ H _ I h) fun u s1 ⟨x,H1,I1,rx,q1⟩=>thn (hi pins s1 σ H1 _ I1 q1) fun iv s2 ⟨y,H2,I2,ry,a,v,ex,g,q2⟩ => ?_)
 subst ex
 obtain rfl:u=Value.ref a:=rx
 exact ⟨pq I2 g,tZ hu I2 g ry fun w' s3 I3 rw'=>⟨v,H2,I3,rw',q2⟩⟩
theorem vw (hu:X.A.units + 1 < cLine) (hi:PE X i ty) (ho:PE X o td):PC X .In i o (tDIn ty td):=by
 intro pins s σ H Q I h
 refine thn (hi pins s σ H _ I h) fun iv s1 ⟨y,H1,I1,ry,q1⟩=>thn (ho pins s1 σ H1 _ I1 q1) fun u s2 ⟨x,H2,I2,rx,a,ov,ex,g,q2⟩ => ?_
 subst ex
 obtain rfl:u=Value.ref a:=rx
 exact d_in hu I2 g ry fun s3 I3=>⟨.bl ov.isSome,H2,I3,rfl,q2⟩
theorem gu (hu:X.A.units + 1 < cLine) (hi:PE X i ty) (ho:PE X o td):PC X .NotIn i o (xF ty td):=by
 intro pins s σ H Q I h
 refine thn (hi pins s σ H _ I h) fun iv s1 ⟨y,H1,I1,ry,q1⟩=>thn (ho pins s1 σ H1 _ I1 q1) fun u s2 ⟨x,H2,I2,rx,a,ov,ex,g,q2⟩ => ?_
 subst ex
 obtain rfl:u=Value.ref a:=rx
 exact xD hu I2 g ry fun s3 I3=>⟨.bl (!ov.isSome),H2,I3,rfl,q2⟩
theorem nU (hu:X.A.units + 1 < cLine) (ho:PE X o td) (hi:PE X i ty) (hv:PE X value tv) (hs:swapsWith value (some (.Subscript o i pos')) pos.line X.env=pure false) :
  PS X (.Assign [.Subscript o i pos'] value pos) (Ay td ty tv):=by
 intro pins s σ H D I h
 refine wpAny_Assign_Subscript (thn (hv pins s σ H _ I h) fun r s1 ⟨v,H1,I1,rv,q1⟩=>thn (ho pins s1 σ H1 _ I1 q1) fun u s2 ⟨x,H2,I2,rx,q2⟩=>thn (hi pins s2 σ H2 _ I2 q2) fun iv s3 ⟨y,H3,I3,ry,a,H4,ex,g,q3⟩ => ?_) hs
 subst ex
 obtain rfl:u=Value.ref a:=rx
 exact t4 hu I3 g ry rv fun s4 I4=>⟨σ,H4,I4,q3⟩
end
theorem pz {P:Program} {w:World} {H:Hp} (h:Heap) (hb:sysModules < h.objs.size):bA P w H (h.push { cls := .type "dict",data := .dict #[] }) h.objs.size (.dK []) :=
 ⟨Br _,beq_eq_false_iff_ne.mpr (BN (A5 hb)),[],.nil,Heap.DictOf.new h⟩
def zz:TE:=fun _ H Q=>∀ p,H p=none->Q (.ref p) (upd H p (.dK []))
section
variable {X:Cx} {pos:Pos}
theorem pC:PE X (.Dict [] [] pos) zz:=fun pins s σ H Q I h =>
 wpAny_Dict_empty ⟨.ref s.heap.objs.size,_,I.laid (a:=s.heap.objs.size) (o := .dK []) (t':=s.toks) (fun _ _ q=>AN _ q) (AS _) (pz s.heap I.big),rfl,h _ (I.hok.fresh (AS _))⟩
end
def qO:List (TE × TE)->St->Hp->(List (V × V)->Hp->Prop)->Prop
 | [],_,H,Q=>Q [] H
 | (tk,tv) :: r,σ,H,Q=>tk σ H fun x H1=>tv σ H1 fun y H2=>qO r σ H2 fun ps H3=>Q ((x,y) :: ps) H3
abbrev VV:List (V × V)->List (Value × Value)->Prop:=Paired fun p q=>RelV p.1 q.1/\RelV p.2 q.2
def PPs (X:Cx) (pos:Pos) (keys:List (Option Expr)) (values:List Expr) (trs:List (TE × TE)):Prop :=
 ∀ (pins:List (Addr × Obj)) (s:Shared) (σ:St) (H:Hp) (Q:List (V × V)->Hp->Prop),Inv X pins σ H s->qO trs σ H Q →
  wpAny (model X.prog X.w) X.A (evalPairs (pairTrees keys values X.env pos)) (fun vs s'=>∃ ps H',Inv X pins σ H' s'/\VV ps vs/\Q ps H') X.xe s
theorem xG {X:Cx} {pos:Pos}:PPs X pos [] [] []:=fun pins s σ H Q I h=>pairTrees_nil_walk ⟨[],H,I,.nil,h⟩
theorem vz {X:Cx} {pos:Pos} {k v:Expr} {ks:List (Option Expr)} {vs:List Expr} {tk tv:TE} {trs:List (TE × TE)} (hk:PE X k tk) (hv:PE X v tv) (hr:PPs X pos ks vs trs) :
  PPs X pos (some k :: ks) (v :: vs) ((tk,tv) :: trs):=fun pins s σ H Q I h =>
 pairTrees_cons_walk (thn (hk pins s σ H _ I h) fun u s1 ⟨x,H1,I1,rx,q1⟩=>thn (hv pins s1 σ H1 _ I1 q1) fun w2 s2 ⟨y,H2,I2,ry,q2⟩ =>
  thn (hr pins s2 σ H2 _ I2 q2) fun ws s3 ⟨ps,H3,I3,rel,q3⟩=>⟨(x,y) :: ps,H3,I3,.cons ⟨rx,ry⟩ rel,q3⟩)
def fR (kvs more:List (Key × V)):List (Key × V):=more.foldl (fun acc kv=>putK acc kv.1 kv.2) kvs
theorem KV.merge:∀ {more:List (Key × V)} {rs:List (Key × Value)} {kvs:List (Key × V)} {vs:List (Key × Value)},KV more rs->KV kvs vs->KV (fR kvs more) (merged vs rs):=by
 intro more rs kvs vs r
 unfold KV at r
 induction r generalizing kvs vs with
 | nil=>intro q; exact q
 | @cons p q ps qs h t ih =>
  intro r0
  have e:KV (putK kvs p.1 p.2) (stored vs q.1 q.2):=by
   have:=r0.put p.1 h.2
   rw [<- h.1]; exact this
  exact ih e
theorem gO:∀ (more kvs:List (Key × V)),(fR kvs more).length<=kvs.length + more.length
 | [],kvs=>by show kvs.length<=kvs.length + 0; omega
 | p :: r,kvs=>by
  have h1:=gO r (putK kvs p.1 p.2)
  have h2:=fQ kvs p.1 p.2
  show (fR (putK kvs p.1 p.2) r).length<=_
  rw [Bn]; omega
theorem kA {P:Program} {w:World}:∀ {kvs:List (Key × V)} {ws:List (Value × Value)},VV (kvs.map fun kv=>(kV kv.1,kv.2)) ws->∃ rs,Carries (bN P w) ws rs/\KV kvs rs
 | [],_,r=>by rw [DS] at r; cases r; exact ⟨[],True.intro,.nil⟩
 | p :: kvs,_,r=>by
  rw [Bj] at r
  cases r with
  | @cons a b as bs h t =>
   obtain ⟨rs,c,q⟩:=kA (P:=P) (w:=w) t
   obtain ⟨b1,b2⟩:=b
   exact ⟨(p.1,b2) :: rs,⟨mG h.1,rfl,c⟩,.cons ⟨rfl,h.2⟩ q⟩
def Az (trs:List (TE × TE)):TE:=fun σ H Q=>∀ p,H p=none->qO trs σ (upd H p (.dK [])) fun ps H2=>H2 p=some (.dK [])/\∃ kvs:List (Key × V),ps=kvs.map (fun kv=>(kV kv.1,kv.2))/\kvs.length<=15/\Q (.ref p) (upd H2 p (.dK (fR [] kvs)))
theorem xH {X:Cx} {pos:Pos} {keys:List (Option Expr)} {values:List Expr} {trs:List (TE × TE)} (h:PPs X pos keys values trs) (hall:keys.all (·.isSome)=true) (hl:keys.length=values.length) (h0:keys ≠ [])
  (h15:keys.length<=15):PE X (.Dict keys values pos) (Az trs):=by
 intro pins s σ H Q I q
 have hn:=I.hok.fresh (AS s.heap.objs.size)
 have I1:=I.laid (a:=s.heap.objs.size) (o := .dK []) (h':=s.heap.push { cls := .type "dict",data := .dict #[] }) (t':=s.toks) (fun _ _ q=>AN _ q) (AS _) (pz s.heap I.big)
 refine wpAny_Dict_walk (knd:=bN X.prog X.w) hall hl h0 h15 (thn (h pins _ σ _ _ I1 (q _ hn)) fun ws s2 ⟨ps,H2,I2,rel,e,kvs,ep,lk,q2⟩ => ?_)
 subst ep
 obtain ⟨rs,c,rk⟩:=kA (P:=X.prog) (w:=X.w) rel
 obtain ⟨z,hd,vs0,r0,dd⟩:=vt I2.hok e
 cases r0
 refine ⟨rs,c,dd,fun h' dd' hs=>⟨.ref s.heap.objs.size,_,?_,rfl,q2⟩⟩
 have hz:(fR [] kvs).length<=sizeLine:=by
  have h1:=gO kvs []
  rw [CB] at h1
  rw [sizeLine_eq]; omega
 have he:∃ q,h'.get? s.heap.objs.size=some q:=let ⟨q,_,_,hq,_⟩:=dd'; ⟨q,hq⟩
 exact nQ I2 (by rw [e]; exact True.intro) hs he (vv hz hd (rk.merge .nil) dd')
section
variable {X:Cx} {pins:List (Addr × Obj)} {σ:St} {H:Hp} {s:Shared} {a:Addr} {y d:V} {u r:Value} {o:Option V} {A:Around} {E:Value->Shared->Prop}
end
section
variable {X:Cx} {o e f:Expr} {apos cpos:Pos} {td ty tx:TE}
end
section
variable {X:Cx} {pins:List (Addr × Obj)} {σ:St} {H:Hp} {s:Shared} {a:Addr} {kvs:List (Key × V)} {A:Around} {E:Value->Shared->Prop}
end
section
variable {X:Cx} {pins:List (Addr × Obj)} {σ:St} {H:Hp} {s:Shared} {a:Addr} {y:V} {u:Value} {A:Around} {E:Value->Shared->Prop}
end
open PySem PySem.Spec PyProof.Rows
section
variable {X:Cx}
end
section
variable {κ : Type} [DecidableEq κ]
end
end L2
namespace SDct
open PySem PyProof.Rows Srt
section
variable {prog:Program} {w:World} {K:Type} [DecidableEq K] {knd:KeyKind prog w K} {A:Around} {E:Value->Shared->Prop} {s:Shared}
end
end SDct
namespace L2
open PySem PySem.Spec PyProof.Rows Srt
section
variable {X:Cx}
theorem r6:∀ {kvs:List (Key × V)} {vs:List (Key × Value)},KV kvs vs->vs.map (·.1)=kvs.map (·.1)
 | _,_,.nil=>rfl
 | _,_,.cons h t=>by rw [Bj,Bj,r6 t,h.1]
end
end L2
namespace HT
open PySem PySem.Spec PyProof.Rows
section
variable {prog:Program} {w:World} {A:Around} {E:Value->Shared->Prop} {s:Shared} {l:Addr} {xs:Array (Int × Tok)}
theorem mJ {items:Array Value} {Q:Value->Shared->Prop} (hl:s.heap.IsTuple l items)
  (h:∀ s₂:Shared,s₂={ s with heap:=s.heap.push { cls := .type "tuple_iterator",data := .fields #[.ref l,.int 0 0] } } →
   (s₂.heap.IsTupleIter s.heap.objs.size l 0/\s₂.heap.IsTuple l items)->(∀ b ∈ [s.heap.objs.size,l],b < s₂.heap.objs.size)->l ≠ s.heap.objs.size->Q (.ref s.heap.objs.size) s₂) :
  wpAny (model prog w) A (pyIter (.ref l)) Q E s:=by
 have hlt:l < s.heap.objs.size:=by obtain ⟨_,e,_⟩:=hl; exact A1 e
 refine wpAny_pyIter_tuple hl (h _ rfl ⟨⟨_,A0 _ rfl,rfl,rfl⟩,?_⟩ (fun b hb => ?_) (A5 hlt))
 ·obtain ⟨o,e,c,d⟩:=hl
  exact ⟨o,AN _ e,c,d⟩
 show b < (s.heap.push _).objs.size
 rw [B4]
 rcases A6.mp hb with rfl | hb
 ·exact B2 _
 ·rcases A6.mp hb with rfl | hb
  ·exact BJ hlt
  ·cases hb
theorem mK {h':Heap} (hk:∀ b o,b ∉ [s.heap.objs.size]->(s.heap.push { cls := .type "tuple_iterator",data := .fields #[.ref l,.int 0 0] }).get? b=some o->h'.get? b=some o) :
  ∀ b o,s.heap.get? b=some o->h'.get? b=some o:=fun b o e=>by
 refine hk b o (fun hm => ?_) (AN _ e)
 rcases A6.mp hm with e1 | hm
 ·exact absurd (e1 ▸ A1 e) (BB _)
 ·cases hm
theorem xI {Q:Value->Shared->Prop} (hh:A.handled=none) (hl:s.heap.IsTuple l (intItems xs)) (hne:0 < xs.size)
  (h:∀ v h' tk,(intItems xs)[argBest (fun i j=>decide (numAt xs i > numAt xs j)) (xs.size - 1)]? = some v->(∀ b o,s.heap.get? b=some o->h'.get? b=some o)->Q v { s with heap:=h',toks:=tk }) :
  wpAny (model prog w) A (call (.builtin "max") [.ref l]) Q E s:=by
 refine call_max_walk (mJ hl fun s₂ e st hfp hlI => ?_)
 subst e
 refine ⟨_,_,_,_,_,_,_,rfl,Fg (A:=A.in1) hh _ l hlI (intItems xs),st,hfp,by simpa [intItems] using hne,CmpOf.ints_gt (numAt xs) (fun _ _=>intItems_at),fun v h' tk hP hk => ?_⟩
 exact h v h' tk (by simpa [intItems] using hP) (mK hk)
theorem xJ {Q:Value->Shared->Prop} (hh:A.handled=none) (hl:s.heap.IsTuple l (intItems xs)) (hne:0 < xs.size)
  (h:∀ v h' tk,(intItems xs)[argBest (fun i j=>decide (numAt xs i < numAt xs j)) (xs.size - 1)]? = some v->(∀ b o,s.heap.get? b=some o->h'.get? b=some o)->Q v { s with heap:=h',toks:=tk }) :
  wpAny (model prog w) A (call (.builtin "min") [.ref l]) Q E s:=by
 refine call_min_walk (mJ hl fun s₂ e st hfp hlI => ?_)
 subst e
 refine ⟨_,_,_,_,_,_,_,rfl,Fg (A:=A.in1) hh _ l hlI (intItems xs),st,hfp,by simpa [intItems] using hne,Hb (numAt xs) (fun _ _=>intItems_at),fun v h' tk hP hk => ?_⟩
 exact h v h' tk (by simpa [intItems] using hP) (mK hk)
end
end HT
namespace L2
open PySem PyProof.Rows
section
variable {X:Cx} {K:PySem.W.Frag}
theorem ii2 {i j:Int} {t1 t2:Tok}:intItems #[(i,t1),(j,t2)] = #[Value.int i t1,Value.int j t2]:=by simp [intItems]
theorem mL (hc:X.calm=true) (hk:X.K=K:=by rfl):bJ X (.builtin "min") (fun xs H Q=>∃ (p:Addr) (i j:Int),xs=[.ref p]/\SqT K H p [.int i,.int j]/\Q (.int (if j < i then j else i)) H):=by
 subst hk
 intro pins s σ H xs us Q I r h
 obtain ⟨p,i,j,rfl,hq,q⟩:=h
 obtain ⟨u,rfl,ru⟩:=vals1 r
 cases (show u=Value.ref p from ru)
 obtain ⟨its,rv,ht,_⟩:=I.tuple hq
 obtain ⟨x,y,rfl,⟨t1,rfl⟩,⟨t2,rfl⟩⟩:=vals2 rv
 refine HT.xJ (I.ok.hd hc) (xs := #[(i,t1),(j,t2)]) (by rw [ii2]; exact ht) (by simp) fun v h' tk hv k => ?_
 have ev:∃ t,v = .int (if j < i then j else i) t:=by
  have hb:argBest (fun a b=>decide (numAt #[(i,t1),(j,t2)] a < numAt #[(i,t1),(j,t2)] b)) (#[(i,t1),(j,t2)].size - 1)=if j < i then 1 else 0:=by
   show (if decide (j < i)=true then 1 else 0)=_
   by_cases h:j < i
   ·rw [decide_eq_true h,if_pos h,if_pos rfl]
   ·rw [decide_eq_false h,if_neg h,if_neg A9]
  rw [hb,ii2] at hv
  by_cases h:j < i
  ·rw [if_pos h] at hv ⊢
   exact ⟨t2,(Bb (show some (Value.int j t2)=some v from hv)).symm⟩
  ·rw [if_neg h] at hv ⊢
   exact ⟨t1,(Bb (show some (Value.int i t1)=some v from hv)).symm⟩
 obtain ⟨t,rfl⟩:=ev
 exact ⟨.int _,H,I.kept k,⟨_,rfl⟩,q⟩
theorem mN (hc:X.calm=true) (hk:X.K=K:=by rfl):bJ X (.builtin "max") (fun xs H Q=>∃ (p:Addr) (i j:Int),xs=[.ref p]/\SqT K H p [.int i,.int j]/\Q (.int (if j > i then j else i)) H):=by
 subst hk
 intro pins s σ H xs us Q I r h
 obtain ⟨p,i,j,rfl,hq,q⟩:=h
 obtain ⟨u,rfl,ru⟩:=vals1 r
 cases (show u=Value.ref p from ru)
 obtain ⟨its,rv,ht,_⟩:=I.tuple hq
 obtain ⟨x,y,rfl,⟨t1,rfl⟩,⟨t2,rfl⟩⟩:=vals2 rv
 refine HT.xI (I.ok.hd hc) (xs := #[(i,t1),(j,t2)]) (by rw [ii2]; exact ht) (by simp) fun v h' tk hv k => ?_
 have ev:∃ t,v = .int (if j > i then j else i) t:=by
  have hb:argBest (fun a b=>decide (numAt #[(i,t1),(j,t2)] a > numAt #[(i,t1),(j,t2)] b)) (#[(i,t1),(j,t2)].size - 1)=if j > i then 1 else 0:=by
   show (if decide (j > i)=true then 1 else 0)=_
   by_cases h:j > i
   ·rw [decide_eq_true h,if_pos h,if_pos rfl]
   ·rw [decide_eq_false h,if_neg h,if_neg A9]
  rw [hb,ii2] at hv
  by_cases h:j > i
  ·rw [if_pos h] at hv ⊢
   exact ⟨t2,(Bb (show some (Value.int j t2)=some v from hv)).symm⟩
  ·rw [if_neg h] at hv ⊢
   exact ⟨t1,(Bb (show some (Value.int i t1)=some v from hv)).symm⟩
 obtain ⟨t,rfl⟩:=ev
 exact ⟨.int _,H,I.kept k,⟨_,rfl⟩,q⟩
end
open PySem PyProof.Rows
section
variable {X:Cx}
def zA (ns ms:List Int) (j:Nat):Bool:=ns.getD j 0 == ms.getD j 0
theorem vA {ns ms:List Int} (h:ns.length=ms.length):((List.range ns.length).all fun j=>zA ns ms j)=decide (ns=ms):=by
 rw [CM,decide_eq_true_iff,CT]
 constructor
 ·intro hh
  refine GD h fun j h1 h2 => ?_
  have:=hh j (BP.mpr h1)
  unfold zA at this
  rw [AZ,AZ,AO h1,AO h2] at this
  exact of_decide_eq_true (by simpa using this)
 ·rintro rfl j _
  exact beq_self_eq_true _
theorem intAt {ns:List Int} {us:List Value} (r:Vals (ns.map V.int) us) {j:Nat} (h:j < us.toArray.size):∃ t,us.toArray[j] = .int (ns.getD j 0) t:=by
 have l:=r.length
 rw [AM] at l
 rw [AR] at h
 have e1:(ns.map V.int)[j]? = some (.int (ns.getD j 0)):=by
  rw [AX,AZ,AO (by omega)]
  rfl
 obtain ⟨u,g1,q1⟩:=r.get e1
 have f1:us.toArray[j]=u:=by simp [AU] at g1; obtain ⟨_,g⟩:=g1; simpa using g
 rw [f1]
 exact q1
theorem xK {k:Nat} (hr:du k X.A):OpR X (compareOp .NotEq) (fun x y H Q=>∃ (a b:Addr) (ns ms:List Int),x = .ref a/\y = .ref b/\SqL X.K H a (ns.map V.int)/\SqL X.K H b (ms.map V.int)/\Q (.bl (!decide (ns=ms))) H):=by
 intro pins s σ H x y v u Q I rx ry h
 obtain ⟨a,b,ns,ms,rfl,rfl,h1,h2,q⟩:=h
 cases (show v=Value.ref a from rx)
 cases (show u=Value.ref b from ry)
 obtain ⟨its,r1,⟨⟨c1,d1,da1,sl1⟩,n1,e1,k1,_,k3⟩,_⟩:=I.list h1
 obtain ⟨its2,r2,⟨⟨c2,d2,da2,sl2⟩,n2,e2,g1,_,g3⟩,_⟩:=I.list h2
 simp only at k1 k3 g1 g3
 subst k1 k3 g1 g3
 have l1:=r1.length
 have l2:=r2.length
 rw [AM] at l1 l2
 have hu:=hr.un
 have hu1:X.A.units < cLine:=by omega
 by_cases hl:ns.length=ms.length
 ·refine richCompare_meets_room (op := .NotEq) ⟨_,e1,rfl⟩ ⟨_,e2,rfl⟩ F.slot_list_ne GQ (GF _ _) (SeqAt.list_neAt a b its.toArray its2.toArray n1 n2 d1 d2 sl1 sl2 (by rw [AR,AR]; omega) (zA ns ms)) ⟨e1,e2,?_,?_⟩ hu1
  ·intro j h1 h2
   obtain ⟨t1,g1⟩:=intAt r1 h1
   obtain ⟨t2,g2⟩:=intAt r2 h2
   rw [g1,g2]
   exact Dq _ t1 _ t2
  ·have ez:its.toArray.size=ns.length:=by rw [AR]; omega
   rw [ez,vA hl]
   exact ⟨(fun z=>nomatch z),⟨.bl _,H,I,rfl,q⟩⟩
 ·have ne:ns ≠ ms:=fun z=>hl (by rw [z])
  rw [decide_eq_false ne] at q
  refine richCompare_meets_room (op := .NotEq) ⟨_,e1,rfl⟩ ⟨_,e2,rfl⟩ F.slot_list_ne GQ (GF _ _) (SeqAt.list_ne_lengthsAt a b its.toArray its2.toArray n1 n2 d1 d2 sl1 sl2 (by simp; omega)) ⟨e1,e2,?_⟩ hu1
  exact ⟨(fun z=>nomatch z),⟨.bl true,H,I,rfl,q⟩⟩
end
end L2
namespace HT
open PySem PySem.Spec PyProof.Rows
section
variable {prog:Program} {w:World} {A:Around} {R:Result->Shared->Prop} {I:Addr} {fp wr:List Addr} {n:Nat} {P:Nat->Value->Prop} {St:Nat->Heap->Prop} {kw:List (Str × Value)}
end
section
variable {prog:Program} {w:World} {A:Around} {E:Value->Shared->Prop} {s:Shared} {l:Addr} {xs:Array (Int × Tok)}
end
end HT
namespace L2
open PySem PyProof.Rows
section
variable {X:Cx} {x:Str} {id:String} {e:Expr} {es:List Expr} {kws:List Keyword} {p pos:Pos} {t tk:TA} {ks:List Str} {r:List V->List V->Hp->VK->Prop}
end
open PySem PyProof.Rows
section
variable {X:Cx}
theorem zB {ns:List Int} {j:Nat} (h:j < ns.length):ns.getD j 0 ∈ ns:=by
 rw [AZ,AO h]
 exact Dl h
theorem zC {ns:List Int} {a:Int} (h:a ∈ ns):∃ j,j < ns.length/\ns.getD j 0=a:=by
 obtain ⟨j,hj,e⟩:=DM h
 exact ⟨j,hj,by rw [AZ,AO hj]; exact e⟩
end
open PySem PyProof.Rows
section
variable {X:Cx}
def pD (ns ms:List Int) (j:Nat):Bool:=ns.getD j 0 == ms.getD j 0
theorem t5 {ns ms:List Int} (h:ns.length=ms.length):((List.range ns.length).all fun j=>pD ns ms j)=decide (ns=ms):=by
 rw [CM,decide_eq_true_iff,CT]
 constructor
 ·intro hh
  refine GD h fun j h1 h2 => ?_
  have:=hh j (BP.mpr h1)
  unfold pD at this
  rw [AZ,AZ,AO h1,AO h2] at this
  exact of_decide_eq_true (by simpa using this)
 ·rintro rfl j _
  exact beq_self_eq_true _
theorem mO {ns ms:List Int}:((List.range (min ns.length ms.length)).all (pD ns ms) && ns.length == ms.length)=decide (ns=ms):=by
 by_cases h:ns.length=ms.length
 ·rw [<- h,EO,show (ns.length == ns.length)=true from beq_self_eq_true _,Bool.and_true]
  exact t5 h
 ·have ne:ns ≠ ms:=fun z=>h (by rw [z])
  rw [decide_eq_false ne,show (ns.length == ms.length)=false from by simpa using h,EV]
theorem nV {ns:List Int} {us:List Value} (r:Vals (ns.map V.int) us) {j:Nat} (h:j < us.toArray.size):∃ t,us.toArray[j] = .int (ns.getD j 0) t:=by
 have l:=r.length
 rw [AM] at l
 rw [AR] at h
 have e1:(ns.map V.int)[j]? = some (.int (ns.getD j 0)):=by
  rw [AX,AZ,AO (by omega)]
  rfl
 obtain ⟨u,g1,q1⟩:=r.get e1
 have f1:us.toArray[j]=u:=by simp [AU] at g1; obtain ⟨_,g⟩:=g1; simpa using g
 rw [f1]
 exact q1
theorem op_eqTI {k:Nat} (hr:du k X.A):OpR X (compareOp .Eq) (fun x y H Q=>∃ (a b:Addr) (ns ms:List Int),x = .ref a/\y = .ref b/\SqT X.K H a (ns.map V.int)/\SqT X.K H b (ms.map V.int)/\Q (.bl (decide (ns=ms))) H):=by
 intro pins s σ H x y v u Q I rx ry h
 obtain ⟨a,b,ns,ms,rfl,rfl,h1,h2,q⟩:=h
 cases (show v=Value.ref a from rx)
 cases (show u=Value.ref b from ry)
 obtain ⟨its,r1,p1,_⟩:=I.tuple h1
 obtain ⟨its2,r2,p2,_⟩:=I.tuple h2
 have l1:=r1.length
 have l2:=r2.length
 rw [AM] at l1 l2
 have hu:=hr.un
 have hu1:X.A.units < cLine:=by omega
 have R:=Gq (A:=X.A) (e:=pD ns ms) (show s.heap.IsTuple a its.toArray from p1) (show s.heap.IsTuple b its2.toArray from p2) hu1 (by
  intro j h1 h2
  obtain ⟨t1,g1⟩:=nV r1 h1
  obtain ⟨t2,g2⟩:=nV r2 h2
  rw [g1,g2]
  exact Dq _ t1 _ t2)
 rw [AR,AR, <- l1, <- l2,mO] at R
 exact R _ _ _ _ ⟨.bl _,H,I,rfl,q⟩
theorem xM {k:Nat} (hr:du k X.A):OpR X (compareOp .NotEq) (fun x y H Q=>∃ (a b:Addr) (ns ms:List Int),x = .ref a/\y = .ref b/\SqT X.K H a (ns.map V.int)/\SqT X.K H b (ms.map V.int)/\Q (.bl (!decide (ns=ms))) H):=by
 intro pins s σ H x y v u Q I rx ry h
 obtain ⟨a,b,ns,ms,rfl,rfl,h1,h2,q⟩:=h
 cases (show v=Value.ref a from rx)
 cases (show u=Value.ref b from ry)
 obtain ⟨its,r1,p1,_⟩:=I.tuple h1
 obtain ⟨its2,r2,p2,_⟩:=I.tuple h2
 have l1:=r1.length
 have l2:=r2.length
 rw [AM] at l1 l2
 have hu:=hr.un
 have hu1:X.A.units < cLine:=by omega
 have R:=FR (A:=X.A) (e:=pD ns ms) (show s.heap.IsTuple a its.toArray from p1) (show s.heap.IsTuple b its2.toArray from p2) hu1 (by
  intro j h1 h2
  obtain ⟨t1,g1⟩:=nV r1 h1
  obtain ⟨t2,g2⟩:=nV r2 h2
  rw [g1,g2]
  exact Dq _ t1 _ t2)
 rw [AR,AR, <- l1, <- l2,mO] at R
 exact R _ _ _ _ ⟨.bl _,H,I,rfl,q⟩
end
section
variable {P:Program} {w:World} {K:PySem.W.Frag} {mg:Str->Option Value} {base:Heap}
end
end L2
namespace L2.Rev
open PySem
open Sem (wp)
section
variable {prog:Program} {w:World} {A:Around} {E:Value->Shared->Prop} {s:Shared}
theorem qP:typeLookup (.type "list_reverseiterator") "__len__" = pure none:=by rw [typeLookup_type,builtinLookup_eq_fast]; kernel_rfl
theorem ir:typeLookup (.type "list_reverseiterator") "__length_hint__" = pure (some (.builtin "list_reverseiterator.__length_hint__")):=by rw [typeLookup_type,builtinLookup_eq_fast]; kernel_rfl
theorem vB {I l:Addr} {i:Int} {Q:Bool->Shared->Prop} (hit:s.heap.IsRevIter I l i) (h:Q false s):wpAny (model prog w) A (Builtin.List.listLengthHint (.ref I)) Q E s:=by
 unfold Builtin.List.listLengthHint
 refine wpAny_bind (wpAny_specialOf hit.typeIs qP ?_)
 wp_delta
 refine wpAny_bind (wpAny_specialOf hit.typeIs ir ?_)
 generalize hid:("list_reverseiterator.__length_hint__" : String)=id0
 wp_delta
 rw [show splitId id0=some ("list_reverseiterator", "__length_hint__") from by subst hid; decide +kernel]
 subst hid
 refine wpAny_bind (wpAny_isInstance (T := "list_reverseiterator") (b:=true) hit.typeIs (by rw [isSubtype_type]; kernel_rfl) ?_)
 refine wpAny_ite_split (fun hab=>absurd hab (by decide)) (fun _ => ?_)
 refine wpAny_ite_split (fun _ => ?_) (fun hab=>absurd (by decide +kernel) hab)
 refine wpAny_ite_split (fun hab=>absurd hab (by decide +kernel)) (fun _ => ?_)
 exact wpAny_pure h
theorem qQ {R:Result->Shared->Prop} {I l:Addr} {items:Array Value} (hh:A.handled=none) (hit:s.heap.IsRevIter I l ((items.size:Int) - 1)) (hl:s.heap.IsList l items) (hne:l ≠ I) (hlen:items.size<=2 ^ 24)
  (S:Addr) (hSI:S ≠ I) (hSl:S ≠ l) (res:Value) (c₀:Nat) (hS:s.heap.get? S=some { cls := .type "list",data := .seq #[] c₀ })
  (hR:∀ h' tk acc' c',(∀ b o,b ≠ S->b ≠ I->s.heap.get? b=some o->h'.get? b=some o)->h'.get? S=some { cls := .type "list",dict:=none,data := .seq acc' c',slots := #[] } →
   ItemsOf (fun i v=>items[items.size - 1 - i]? = some v) acc' items.size->R (.ok (.ret res)) { s with heap:=h',toks:=tk }) :
  wpAny (model prog w) A.in1 (Builtin.List.listExtendWith (.ref S) (.ref I) res)
   (fun fin s'=>match fin with | .done f=>R (.ok f) s' | .again c'=>c'.quiet=true/\codeAny (model prog w) A c' R s') (fun e s'=>R (.error e) s') s:=by
 have hSf:S ∉ [I,l]:=fun hm=>by
  rcases A6.mp hm with e | hm
  ·exact hSI e
  ·exact hSl (AV.mp hm)
 have W:=(Walks.listRev (prog:=prog) (w:=w) (A:=A.in1) hh I l hne items).toS
 unfold Builtin.List.listExtendWith
 refine wpAny_bind (wpAny_typeOf (T := "list_reverseiterator") hit.typeIs ?_)
 have h1:Builtin.List.listSameRef (.ref S) (.ref I)=false:=by simp [Builtin.List.listSameRef,hSI]
 have h2:(Value.type "list_reverseiterator" == Value.type "list")=false:=by decide +kernel
 have h3:(Value.type "list_reverseiterator" == Value.type "tuple")=false:=by decide +kernel
 simp only [h1,h2,h3,F0,A8,if_false]
 refine wpAny_bind (wpAny_pyIter_revIter hit ?_)
 refine wpAny_bind (wpAny_holding (vB hit ?_))
 refine wpAny_ite_split (fun hab=>absurd hab (by decide +kernel)) (fun _=>wpAny_pure ⟨plainId_quiet Dk _,?_⟩)
 refine codeAny_extend_loopS W (by rw [sizeLine_eq]; omega) S hSf res items.size 0 _ #[] c₀ rfl (Br _) ⟨Br _,by simpa using hit,hl⟩ hS (GR _) fun s' acc' c' hm hS' hacc => ?_
 rw [Gb hm]
 refine hR s'.heap s'.toks acc' c' (fun b o hb hbI e=>hm.heap b o (fun hmem => ?_) e) hS' hacc
 rcases A6.mp hmem with e' | hmem
 ·exact hb e'
 ·exact hbI (AV.mp hmem)
theorem vC {R:Result->Shared->Prop} {I l:Addr} {items:Array Value} (hh:A.handled=none) (hit:s.heap.IsRevIter I l ((items.size:Int) - 1)) (hl:s.heap.IsList l items) (hne:l ≠ I) (hlen:items.size<=2 ^ 24)
    (S:Addr) (hSI:S ≠ I) (hSl:S ≠ l) (hS:s.heap.get? S=some { cls := .type "list",data := .seq #[] })
    (hR:∀ h' tk acc' c',(∀ b o,b ≠ S->b ≠ I->s.heap.get? b=some o->h'.get? b=some o)->h'.get? S=some { cls := .type "list",dict:=none,data := .seq acc' c',slots := #[] } →
      ItemsOf (fun i v=>items[items.size - 1 - i]? = some v) acc' items.size->R (.ok (.ret .none)) { s with heap:=h',toks:=tk }) :
    wpAny (model prog w) A.in1 (Builtin.«list.__init__» ⟨[.ref S,.ref I],[]⟩)
      (fun fin s'=>match fin with | .done f=>R (.ok f) s' | .again c'=>c'.quiet=true/\codeAny (model prog w) A c' R s') (fun e s'=>R (.error e) s') s:=by
  show wpAny _ _ (do let old ← Builtin.List.listItems (.ref S); Builtin.List.listUpdate (.ref S) (fun _ => #[]); letGo old.toList.reverse; Builtin.List.listExtendWith (.ref S) (.ref I) .none) _ _ s
  refine wpAny_bind ?_
  unfold Builtin.List.listItems
  refine wpAny_bind (wpAny_seqItems hS rfl (wpAny_pure ?_))
  show wpAny _ _ (updateSeq S (fun _ => #[]) >>= fun _=>letGo (#[]:Array Value).toList.reverse >>= fun _=>Builtin.List.listExtendWith (.ref S) (.ref I) .none) _ _ s
  refine wpAny_bind (wpAny_updateSeq hS rfl ?_)
  have hS₂:=Bv (Obj.mapSeq (fun _=>(#[]:Array Value))) hS rfl
  have oth:∀ b o,b ≠ S->s.heap.get? b=some o->(s.heap.update S (Obj.mapSeq (fun _=>(#[]:Array Value)))).get? b=some o :=
    fun b o hb e=>(Bd _ _ (BN hb)).trans e
  refine wpAny_bind (wpAny_letGo ?_)
  refine qQ hh (hit.at fun o e=>oth I o (BN hSI) e) (hl.at fun o e=>oth l o (BN hSl) e) hne hlen S hSI hSl .none _ hS₂ fun h' tk acc' c' hk hS' hacc => ?_
  exact hR h' tk acc' c' (fun b o hb hbI e=>hk b o hb hbI (oth b o hb e)) hS' hacc
theorem vD {Q:Value->Shared->Prop} {I l:Addr} {items:Array Value} (hh:A.handled=none) (hit:s.heap.IsRevIter I l ((items.size:Int) - 1)) (hl:s.heap.IsList l items) (hne:l ≠ I) (hlen:items.size<=2 ^ 24)
  (hQ:∀ h' tk acc' c',(∀ b o,b ≠ I->s.heap.get? b=some o->h'.get? b=some o) →
   h'.get? s.heap.objs.size=some { cls := .type "list",dict:=none,data := .seq acc' c',slots := #[] }->ItemsOf (fun i v=>items[items.size - 1 - i]? = some v) acc' items.size->Q (.ref s.heap.objs.size) { s with heap:=h',toks:=tk }) :
  wpAny (model prog w) A (call (.type "list") [.ref I]) Q E s:=by
 refine callType_codes (Q₁:=fun obj s₁=>obj = .ref s.heap.objs.size/\s₁={ s with heap:=s.heap.push { cls := .type "list",data := .seq #[] } }) F.called_list (F.typeCall_list_1 _) F.entry_list_init
  (code_list_new _ ⟨rfl,rfl⟩) fun obj s₁ h₁ => ?_
 obtain ⟨rfl,rfl⟩:=h₁
 have hS:(s.heap.push { cls := .type "list",data := .seq #[] }).get? s.heap.objs.size=some { cls := .type "list",data := .seq #[] }:=A0 _ rfl
 obtain ⟨oi,hoi,_⟩:=id hit
 obtain ⟨ol,hol,_⟩:=id hl
 refine ⟨⟨_,hS,rfl⟩,F.args_list_init_2 _ _,vC (A:=A.in1) hh (hit.at fun o e=>AN _ e) (hl.at fun o e=>AN _ e) hne hlen _ (BN (A5 (A1 hoi))) (BN (A5 (A1 hol))) hS fun h' tk acc' c' hk hS' hacc => ?_⟩
 exact ⟨rfl,hQ h' tk acc' c' (fun b o hbI e=>hk b o (A5 (A1 e)) hbI (AN _ e)) hS' hacc⟩
end
end L2.Rev
namespace L2
open PySem PySem.Spec PyProof.Rows
section
variable {X:Cx}
theorem fS:bootBuiltins "reversed" = some (.type "reversed"):=by decide +kernel
theorem vE:bootBuiltins "list" = some (.type "list"):=by decide +kernel
theorem kB:∀ {xs:List V} {us:List Value},Vals xs us->Vals xs.reverse us.reverse
 | [],[],_ => .nil
 | x :: xs,u :: us,.cons h t=>by
  rw [DD,DD]
  exact (kB t).append (.cons h .nil)
def vF (K:PySem.W.Frag) (te:TE):TE:=fun σ H Q=>te σ H fun x H1=>∃ l xs,x = .ref l/\SqL K H1 l xs/\xs.length<=1000/\∀ p,H1 p=none->Q (.ref p) (upd H1 p (.lst xs.reverse))
theorem qR {e:Expr} {te:TE} {p1 p2 pos1 pos2:Pos} (hh:X.A.handled=none) (hg1:Gl X "list") (hm1:X.mg "list" = none) (hg2:Gl X "reversed") (hm2:X.mg "reversed" = none) (he:PE X e te)
  (hs1:starEach [Expr.Call (.Name "reversed" p2) [e] [] pos2] X.env=(false,eval (.Call (.Name "reversed" p2) [e] [] pos2) X.env) :: starEach [] X.env:=by rfl) (hp1:(backTo pos1 (starEach [] X.env)).any (·.1)=false:=by rfl)
  (hs2:starEach [e] X.env=(false,eval e X.env) :: starEach [] X.env:=by rfl) (hp2:(backTo pos2 (starEach [] X.env)).any (·.1)=false:=by rfl) :
  PE X (.Call (.Name "list" p1) [.Call (.Name "reversed" p2) [e] [] pos2] [] pos1) (vF X.K te):=by
 intro pins s σ H Q I h
 refine wpAny_Call_Name_kw (dk I hg1 hm1 vE ?_ (by decide) (by decide))
 refine BR ?_ hs1 hp1
 rw [hs1]
 show wpAny _ _ (spliced ((false,eval (.Call (.Name "reversed" p2) [e] [] pos2) X.env) :: backTo pos1 (starEach [] X.env))) _ _ s
 refine EM ?_
 refine wpAny_Call_Name_kw (dk I hg2 hm2 fS ?_ (by decide) (by decide))
 refine BR (thn ((aa he ag hs2) pos2 pins s σ H (fun vs H1=>match vs with | [x]=>∃ l xs,x = .ref l/\SqL X.K H1 l xs/\xs.length<=1000/\∀ p,H1 p=none->Q (.ref p) (upd H1 p (.lst xs.reverse)) | _=>False) I ?_) fun us s1 ⟨vs,H1,I1,r1,q1⟩ => ?_) hs2 hp2
 ·exact h
 ·match vs,q1 with
  | [x],q1 =>
  obtain ⟨l,xs,rfl,hx,h1000,q⟩:=q1
  obtain ⟨u,rfl,ru⟩:=vals1 r1
  cases (show u=Value.ref l from ru)
  obtain ⟨its,r,hl,hz⟩:=I1.list hx
  have hL:s1.heap.IsList l its.toArray:=hl.isList
  refine call_reversed_list hL ?_
  refine E2 ?_
  have ll:=r.length
  obtain ⟨ol,hol,_⟩:=id hL
  refine Rev.vD hh (I:=s1.heap.objs.size) (l:=l) (items:=its.toArray) ⟨_,A0 _ rfl,rfl,rfl⟩ (hL.at fun o e=>AN _ e) (A5 (A1 hol)) (by rw [AR]; omega) fun h' tk acc' c' k e' it => ?_
  have ea:acc'.toList=its.reverse:=by
   refine Cy fun j => ?_
   rw [A3]
   have h1:acc'.size=its.length:=by rw [it.1,AR]
   by_cases hj:j < its.length
   ·obtain ⟨v,hv⟩:∃ v,acc'[j]? = some v:=⟨acc'[j]'(by omega),Be _⟩
    have:=it.2 j v hv
    dsimp only at this
    rw [Bs,AR] at this
    rw [hv,FA hj,this]
   ·rw [Cq (by omega),Bl (by rw [Cf]; omega)]
  have rv:=kB r
  rw [<- ea] at rv
  have L1:(s1.heap.push (revObj l (((its.toArray).size:Int) - 1))).objs.size=s1.heap.objs.size + 1:=by
   simp [Heap.push]
  refine ⟨.ref (s1.heap.push (revObj l (((its.toArray).size:Int) - 1))).objs.size,_,I1.laid (o := .lst xs.reverse) (fun b u eb=>k b u (A5 (A1 eb)) (AN _ eb)) (by rw [L1]; omega) ⟨by rw [Cf]; exact hz,acc'.toList,c',rv,by simpa using e'⟩,rfl,q _ (I1.hok.fresh (by rw [L1]; omega))⟩
end
end L2
namespace L2.Rem
open PySem PySem.SeqAt PySem.MeetsSeq
open AutoSeq1 (wpAny_loadPart')
end L2.Rem
namespace L2
open PySem PySem.Spec PyProof.Rows
section
variable {X:Cx}
end
open PySem PySem.Spec PyProof.Rows
section
variable {X:Cx}
end
open PySem PySem.Spec PyProof.Rows
section
variable {X:Cx}
theorem pE:bJ X (.builtin "len") (fun xs H Q=>∃ (a:Addr) (ys:List V),xs=[.ref a]/\H a=some (d8 X.w a ys)/\ys.length < 1000/\Q (.int ys.length) H):=by
 intro pins s σ H xs us Q I r h
 obtain ⟨a,ys,rfl,ha,hl,q⟩:=h
 obtain ⟨u,rfl,ru⟩:=vals1 r
 cases (show u=Value.ref a from ru)
 obtain ⟨⟨es,⟨ep,t,ho,T,_⟩,rv⟩,_⟩:=(show bA X.prog X.w H s.heap a (d8 X.w a ys) from I.hok a _ ha)
 have l:=rv.length
 have l2:es.size=ys.length:=by simpa using l.symm
 refine call_len_set ho ⟨rfl,rfl,rfl⟩ rfl (by have:=T.fits; rwa [BD] at this) (by omega) ?_
 rw [l2]
 exact ⟨.int ys.length,H,I.tok _,⟨_,rfl⟩,q⟩
end
open PySem PySem.Spec PyProof.Rows
section
variable {X:Cx}
end
open PySem PySem.Spec PyProof.Rows
open PySem PySem.Spec PyProof.Rows
def r9:Stmt->List Stmt
 | .For _ _ body _ _=>body
 | _=>[]
theorem jt {ns:List Int} {i:Nat} {x:V} (e:(ns.map V.int)[i]? = some x):∃ u,ns[i]? = some u/\x = .int u:=by
 rw [AX] at e
 cases z:ns[i]? with
 | none=>rw [z] at e; cases e
 | some tt=>rw [z] at e; exact ⟨tt,rfl,(Bb e).symm⟩
variable {X:Cx}
open PySem PySem.Spec PyProof.Rows
section
variable {X:Cx}
theorem vH {k:Int}:∀ {ns:List Int} {m:Nat} (h:m < ns.length),m < ns.idxOf k->ns[m] ≠ k
 | [],m,h,_=>absurd h (Dd _)
 | n :: ns,0,_,l=>by
  intro z
  have e:(n :: ns)[0]=n:=rfl
  rw [e] at z
  subst z
  simp at l
 | n :: ns,m + 1,h,l=>by
  have h':m < ns.length:=Nat.lt_of_succ_lt_succ h
  show ns[m] ≠ k
  refine vH h' ?_
  by_cases e:n=k
  ·subst e; simp at l
  ·rw [List.idxOf_cons,show (n == k)=false by simpa using e] at l
   simp at l
   exact l
def sd (K:PySem.W.Frag):R2:=fun x y H Q=>∃ a b xs ys,x = .ref a/\y = .ref b/\SqT K H a xs/\SqT K H b ys/\xs.length + ys.length<=sizeLine/\(xs=[]->Q (.ref b) H)/\(ys=[]->Q (.ref a) H)/\(xs ≠ []->ys ≠ []->∀ p,H p=none->Q (.ref p) (upd H p (.tup (xs ++ ys))))
theorem vI:OpR X (binaryOp .Add) (sd X.K):=by
 intro pins s σ H x y v u Q I rx ry h
 obtain ⟨a,b,xs,ys,rfl,rfl,ha,hb,hz,q1,q2,q3⟩:=h
 by_cases hx:xs=[]
 ·cases rx
  cases ry
  obtain ⟨its,r1,p1,_⟩:=I.tuple ha
  obtain ⟨its2,r2,p2,_⟩:=I.tuple hb
  obtain ⟨⟨c1,d1,da1,s1⟩,o1,k1,n1,g1⟩:=id p1
  obtain ⟨⟨c2,d2,da2,s2⟩,o2,k2,n2,g2⟩:=id p2
  simp only at k1 g1 k2 g2
  subst k1 g1 k2 g2
  have e0:its=[]:=r1.jB.mpr hx
  exact concat_meets ⟨_,o1,rfl⟩ ⟨_,o2,rfl⟩ noFill_tuple_add seq_tuple_add D9 D4 (DR _ _)
   (tuple_addW0 a b its.toArray its2.toArray n1 n2 d1 d2 s1 s2 (by simp [e0])) ⟨o1,o2,⟨.ref b,H,I,rfl,q1 hx⟩⟩
 ·exact wO pins s σ H _ _ v u Q I rx ry ⟨a,b,xs,ys,rfl,rfl,ha,hb,hx,hz,q2,fun hy=>q3 hx hy⟩
theorem sd.one {K:PySem.W.Frag} {H:Hp} {Q:VK} {a b:Addr} {xs ys:List V} (ha:H a=some (.tup xs)) (hb:H b=some (.tup ys)) (hz:xs.length + ys.length<=sizeLine) (q:∀ p H',aB H H'->H' p=some (.tup (xs ++ ys))->Q (.ref p) H'):sd K (.ref a) (.ref b) H Q:=by
 refine ⟨a,b,xs,ys,rfl,rfl,SqT.of ha,SqT.of hb,hz,fun z => ?_,fun z => ?_,fun _ _ p hp=>q p _ (ae hp _) af⟩
 ·subst z; exact q b H (aB.refl _) hb
 ·subst z; exact q a H (aB.refl _) (by rw [BM]; exact ha)
end
open PySem PySem.Spec PyProof.Rows
section
variable {prog:Program} {w:World} {A:Around} {E:Value->Shared->Prop} {s:Shared}
end
end L2
namespace Srt
open PySem PyProof.Rows
section
variable {prog:Program} {w:World} {A:Around} {E:Value->Shared->Prop} {s:Shared}
end
end Srt
namespace L2
open PySem PySem.Spec PyProof.Rows
section
variable {X:Cx}
end
open PySem PySem.Spec PyProof.Rows
open PySem PySem.Spec PyProof.Rows
section
variable {X:Cx}
end
open PySem PySem.Spec PyProof.Rows
section
variable {X:Cx}
end
end L2
namespace SDct
open PySem PyProof.Rows Srt
section
variable {prog:Program} {w:World} {A:Around} {E:Value->Shared->Prop} {s:Shared} {T:String} {r d:Addr} {n:Nat} {P:Nat->Value->Prop} {OK:Heap->Prop}
end
end SDct
namespace L2
open PySem PySem.Spec PyProof.Rows Srt
section
variable {X:Cx}
end
open PySem PySem.Spec PyProof.Rows
section
variable {X:Cx}
theorem ju:∀ {ks:List Int} {ws:List Value},ws.length=ks.length->(∀ (i:Nat) v,ws[i]? = some v->∃ k t,ks[i]? = some k/\v = .int k t)->Vals (ks.map V.int) ws
 | [],[],_,_ => .nil
 | k :: ks,v :: ws,hl,h=>by
  obtain ⟨k',t,e1,e2⟩:=h 0 v rfl
  cases e1
  exact .cons ⟨t,e2⟩ (ju (by simpa using hl) fun i v hv=>h (i + 1) v hv)
theorem qS (hh:X.A.handled=none):bJ X (.type "list") (fun xs H Q=>∃ (a:Addr) (kvs:List (Key × V)) (ks:List Int),xs=[.ref a]/\H a=some (.dK kvs)/\kvs.map (·.1)=ks.map Sum.inl/\∀ l,H l=none->Q (.ref l) (upd H l (.lst (ks.map V.int)))):=by
 intro pins s σ H xs us Q I r h
 obtain ⟨a,kvs,ks,rfl,ha,ek,q⟩:=h
 obtain ⟨u,rfl,ru⟩:=vals1 r
 cases (show u=Value.ref a from ru)
 obtain ⟨z,hd,vs,rel,dd⟩:=vt I.hok ha
 obtain ⟨ep,dd⟩:=dd.dictAt
 have lv:kvs.length=vs.length:=Dy rel
 have keys:vs.map (·.1)=kvs.map (·.1):=r6 rel
 have lk:ks.length=vs.length:=by
  have:=congrArg List.length ek
  rw [AM,AM] at this
  omega
 refine W.kdl_call (W.kdl_dict (knd:=bN X.prog X.w) hd) hh dd (by omega) fun h' tk acc' c' kp e' it => ?_
 have sh:Vals (ks.map V.int) acc'.toList:=ju (by rw [AW,it.1]; omega) fun i v hv=>by
  rw [A3] at hv
  obtain ⟨k,x,e1,e2⟩:=it.2 i v hv
  have e3:(vs.map (·.1))[i]? = some k:=by rw [AX,e1]; rfl
  rw [keys,ek,AX] at e3
  cases hk:ks[i]? with
  | none=>rw [hk] at e3; cases e3
  | some n =>
   rw [hk] at e3
   cases e3
   obtain ⟨t,rfl⟩:=Eb (show Value.isInt n v=true from e2)
   exact ⟨n,t,rfl,rfl⟩
 exact ⟨.ref s.heap.objs.size,_,I.laid (o := .lst (ks.map V.int)) kp (AS _) ⟨by rw [AM]; omega,acc'.toList,c',sh,by simpa using e'⟩,rfl,q _ (I.hok.fresh (AS _))⟩
end
open PySem PySem.Spec PyProof.Rows
section
variable {X:Cx}
theorem t6:z6 X (fun o i H Q=>∃ (p:Addr) (xs:List V) (k:Nat) (v:V),o = .ref p/\i = .int k/\SqL X.K H p xs/\xs[k]? = some v/\Q v H):=by
 intro pins s σ H o i ov iv Q I ro ri h
 obtain ⟨p,xs,k,v,rfl,rfl,hq,he,q⟩:=h
 cases (show ov=Value.ref p from ro)
 obtain ⟨t,rfl⟩:=(show ∃ t,iv=Value.int k t from ri)
 obtain ⟨its,r,pl,hz⟩:=I.list hq
 obtain ⟨w,ew,rw'⟩:=r.get he
 have hk:k < xs.length:=(AU.mp he).1
 have hn:=iN
 exact wpAny_getItem_list pl.isList (by omega) (by omega) (by simpa using ew) ⟨v,H,I,rw',q⟩
def EqS (K:PySem.W.Frag) (H:Hp):Nat->V->V->Prop
 | 0,x,y=>(∃ i,x = .int i/\y = .int i)\/(∃ i,x = .str i/\y = .str i)\/∃ a,x = .ref a/\y = .ref a
 | n + 1,x,y=>(∃ i,x = .int i/\y = .int i)\/(∃ i,x = .str i/\y = .str i)\/(∃ a,x = .ref a/\y = .ref a)\/∃ a b xs ys,x = .ref a/\y = .ref b/\((SqT K H a xs/\SqT K H b ys)\/(SqL K H a xs/\SqL K H b ys))/\Paired (EqS K H n) xs ys
theorem iW {K:PySem.W.Frag} {H:Hp} {n:Nat} {s:Shared} {A:Around} {xs ys:List V} {us vs:List Value} (p:Paired (EqS K H n) xs ys) (r1:Vals xs us) (r2:Vals ys vs)
  (ih:∀ x y u v,EqS K H n x y->RelV x u->RelV y v->SeqAt.EqAt A s u v true):∀ j (h1:j < us.toArray.size) (h2:j < vs.toArray.size),SeqAt.EqAt A s us.toArray[j] vs.toArray[j] true:=fun j h1 h2=>by
 rw [AR] at h1 h2
 have l1:=r1.length
 have l2:=r2.length
 have e1:xs[j]? = some xs[j]:=AO (by omega)
 have e2:ys[j]? = some ys[j]:=AO (by omega)
 obtain ⟨u,g1,q1⟩:=r1.get e1
 obtain ⟨v,g2,q2⟩:=r2.get e2
 have f1:us.toArray[j]=u:=by simp [AU] at g1; obtain ⟨_,g⟩:=g1; simpa using g
 have f2:vs.toArray[j]=v:=by simp [AU] at g2; obtain ⟨_,g⟩:=g2; simpa using g
 rw [f1,f2]
 exact ih _ _ u v (lX p e1 e2) q1 q2
theorem iu {A:Around} {s:Shared} {x y:V} {u v:Value} (h:(∃ i,x = .int i/\y = .int i)\/(∃ i,x = .str i/\y = .str i)\/∃ a,x = .ref a/\y = .ref a) (ru:RelV x u) (rv:RelV y v):SeqAt.EqAt A s u v true:=by
 rcases h with ⟨i,rfl,rfl⟩ | ⟨i,rfl,rfl⟩ | ⟨a,rfl,rfl⟩
 ·obtain ⟨t,rfl⟩:=(show ∃ t,u=Value.int i t from ru)
  obtain ⟨t',rfl⟩:=(show ∃ t,v=Value.int i t from rv)
  have:=Dq (A:=A) (s:=s) i t i t'
  rw [beq_self_eq_true] at this
  exact this
 ·obtain ⟨t,rfl⟩:=(show ∃ t,u=Value.str i t from ru)
  obtain ⟨t',rfl⟩:=(show ∃ t,v=Value.str i t from rv)
  have:=SeqAt.EqAt.str_str (A:=A) (s:=s) i t i t'
  rw [show (i == i)=true by simp] at this
  exact this
 ·cases (show u=Value.ref a from ru)
  cases (show v=Value.ref a from rv)
  exact GS _
theorem vJ {pins:List (Addr × Obj)} {σ:St} {H:Hp} {s:Shared} (I:Inv X pins σ H s):∀ (n:Nat) (A:Around) (x y:V) (u v:Value),A.units + n < cLine->EqS X.K H n x y->RelV x u->RelV y v->SeqAt.EqAt A s u v true
 | 0,A,x,y,u,v,_,h,ru,rv=>iu h ru rv
 | n + 1,A,x,y,u,v,hA,h,ru,rv=>by
  rcases h with h | h | h | ⟨a,b,xs,ys,rfl,rfl,hs,p⟩
  ·exact iu (.inl h) ru rv
  ·exact iu (.inr (.inl h)) ru rv
  ·exact iu (.inr (.inr h)) ru rv
  ·cases (show u=Value.ref a from ru)
   cases (show v=Value.ref b from rv)
   by_cases hab:a=b
   ·subst hab; exact GS _
   refine SeqAt.EqAt.of_refs hab ?_
   have ih:∀ x y u v,EqS X.K H n x y->RelV x u->RelV y v->SeqAt.EqAt A.in1 s u v true:=fun x y u v h1 h2 h3=>vJ I n A.in1 x y u v (by show A.units + 1 + n < cLine; omega) h1 h2 h3
   have pl:=Dy p
   rcases hs with ⟨h1,h2⟩ | ⟨h1,h2⟩
   ·obtain ⟨its,r1,p1,_⟩:=I.tuple h1
    obtain ⟨its2,r2,p2,_⟩:=I.tuple h2
    have q:=Gq (e:=fun _=>true) (show s.heap.IsTuple a its.toArray from p1) (show s.heap.IsTuple b its2.toArray from p2) (by omega) (iW p r1 r2 ih)
    have ez:its.toArray.size=its2.toArray.size:=by rw [AR,AR, <- r1.length, <- r2.length,pl]
    rw [all_true,ez,beq_self_eq_true] at q
    exact q
   ·obtain ⟨its,r1,p1,_⟩:=I.list h1
    obtain ⟨its2,r2,p2,_⟩:=I.list h2
    have q:=SeqAt.RcAt.lists (e:=fun _=>true) p1.isList p2.isList (by rw [AR,AR, <- r1.length, <- r2.length,pl]) (by omega) (iW p r1 r2 ih)
    rw [all_true] at q
    exact q
theorem se {k:Nat} (hr:du k X.A):OpR X (compareOp .NotEq) (fun x y H Q=>∃ a b xs ys,x = .ref a/\y = .ref b/\SqT X.K H a xs/\SqT X.K H b ys/\Paired (EqS X.K H 20) xs ys/\Q (.bl false) H):=by
 intro pins s σ H x y v u Q I rx ry h
 obtain ⟨a,b,xs,ys,rfl,rfl,h1,h2,p,q⟩:=h
 cases (show v=Value.ref a from rx)
 cases (show u=Value.ref b from ry)
 obtain ⟨its,r1,p1,_⟩:=I.tuple h1
 obtain ⟨its2,r2,p2,_⟩:=I.tuple h2
 have l1:=r1.length
 have l2:=r2.length
 have pl:=Dy p
 have hu:=hr.un
 have hu1:X.A.units < cLine:=by omega
 have R:=FR (A:=X.A) (e:=fun _=>true) (show s.heap.IsTuple a its.toArray from p1) (show s.heap.IsTuple b its2.toArray from p2) hu1 (iW p r1 r2 fun x y u v h1 h2 h3=>vJ I 20 _ x y u v (by show X.A.units + 1 + _ < cLine; omega) h1 h2 h3)
 rw [AR,AR, <- l1, <- l2,pl,EO,beq_self_eq_true,all_true] at R
 exact R _ _ _ _ ⟨.bl false,H,I,rfl,q⟩
end
end L2
namespace L2.RvT
open PySem PyProof.Rows
open Sem (wp)
theorem iX:Manifest.owners.lookup (String.ofList ['d', 'e', 's', 'r', 'e', 'v', 'e', 'r'].reverse)=some Manifest.sig_reversed:=by kernel_rfl
theorem slot_next:Slot "reversed" "__next__" "reversed.__next__" :=
 .of (owner := "reversed") (n := "__next__") (by rw [typeLookup_type,builtinLookup_eq_fast]; kernel_rfl) (by decide +kernel) (by decide +kernel) (by decide +kernel)
  (by first | exact .inl (by decide +kernel) | exact .inr (by decide +kernel)) (by rw [isSubtype_type]; kernel_rfl)
theorem entry_next:entryFor table "reversed.__next__" = some Builtin.«reversed.__next__» := entryFor_of_tree (by kernel_rfl)
theorem args_next (a:Value):argsOk "reversed.__next__" ⟨[a],[]⟩:=by
 unfold argsOk; rw [signature?_of (id := "reversed.__next__") (n:=['_', '_', 't', 'x', 'e', 'n', '_', '_']) (o:=['d', 'e', 's', 'r', 'e', 'v', 'e', 'r']) (by kernel_rfl) iX]; kernel_rfl
theorem mP:Slot "reversed" "__iter__" "reversed.__iter__" :=
 .of (owner := "reversed") (n := "__iter__") (by rw [typeLookup_type,builtinLookup_eq_fast]; kernel_rfl) (by decide +kernel) (by decide +kernel) (by decide +kernel)
  (by first | exact .inl (by decide +kernel) | exact .inr (by decide +kernel)) (by rw [isSubtype_type]; kernel_rfl)
theorem t7 (a:Value):argsOk "reversed.__iter__" ⟨[a],[]⟩:=by
 unfold argsOk; rw [signature?_of (id := "reversed.__iter__") (n:=['_', '_', 'r', 'e', 't', 'i', '_', '_']) (o:=['d', 'e', 's', 'r', 'e', 'v', 'e', 'r']) (by kernel_rfl) iX]; kernel_rfl
theorem qT:entryFor table "reversed.__iter__" = some Builtin.«dict_keyiterator.__iter__» :=
 entryFor_alias (id' := "dict_keyiterator.__iter__") (by kernel_rfl) (by first | rfl | decide +kernel | (unfold String.splitOn; simp +decide [String.splitOnAux])) (by decide +kernel) (by kernel_rfl)
theorem zD:typeLookup (.type "tuple") "__reversed__" = pure none:=by rw [typeLookup_type,builtinLookup_eq_fast]; kernel_rfl
theorem qP:typeLookup (.type "reversed") "__len__" = pure none:=by rw [typeLookup_type,builtinLookup_eq_fast]; kernel_rfl
theorem ir:typeLookup (.type "reversed") "__length_hint__" = pure (some (.builtin "reversed.__length_hint__")):=by rw [typeLookup_type,builtinLookup_eq_fast]; kernel_rfl
theorem sub_self:isSubtype (.type "reversed") (.type "reversed")=pure true:=by rw [isSubtype_type]; kernel_rfl
theorem vK:isSubtype (.type "tuple") (.type "dict")=pure false:=by rw [isSubtype_type]; kernel_rfl
theorem t8:Slot "reversed" "__init__" "object.__init__" :=
 .of (owner := "object") (n := "__init__") (by rw [typeLookup_type,builtinLookup_eq_fast]; kernel_rfl) (by decide +kernel) (by decide +kernel) (by decide +kernel)
  (by first | exact .inl (by decide +kernel) | exact .inr (by decide +kernel)) (by rw [isSubtype_type]; kernel_rfl)
theorem called:TypeCalled "reversed" "reversed.__new__" "object.__init__" :=
 ⟨by decide +kernel,by decide +kernel,⟨_,_,FI⟩,madeBy_type FI PySem.F.lookup_reversed_new (by decide +kernel),by decide +kernel,by rw [isSubtype_type]; kernel_rfl,t8⟩
def rvO (t:Addr) (i:Int):Obj:={ cls := .type "reversed",data := .fields #[.ref t,rawInt i] }
def gI (h:Heap) (a t:Addr) (i:Int):Prop:=∃ o,h.get? a=some o/\o.cls = .type "reversed" /\ o.data = .fields #[.ref t,rawInt i]
section
variable {prog:Program} {w:World} {A:Around} {E:Value->Shared->Prop} {s:Shared}
theorem gI.typeIs {a t:Addr} {i:Int} (x:gI s.heap a t i):s.TypeIs (.ref a) "reversed" := let ⟨o,ho,hc,_⟩:=x; ⟨o,ho,hc⟩
theorem gI.at {h h':Heap} {a t:Addr} {i:Int} (x:gI h a t i) (e:∀ o,h.get? a=some o->h'.get? a=some o):gI h' a t i:=let ⟨o,ho,r⟩:=x; ⟨o,e _ ho,r⟩
theorem pF {h h':Heap} {a:Addr} {its:Array Value} (x:IsTup h a its) (e:∀ o,h.get? a=some o->h'.get? a=some o):IsTup h' a its:=let ⟨o,ho,r⟩:=x; ⟨o,e _ ho,r⟩
theorem t9 (t:Addr) (its:Array Value) (hz:(its.size:Int) < 2 ^ 63) :
  Meets (Builtin.«reversed.__new__» ⟨[.type "reversed",.ref t],[]⟩) (fun _ R s=>IsTup s.heap t its/\R (.ok (.ret (.ref s.heap.objs.size))) { s with heap:=s.heap.push (rvO t ((its.size:Int) - 1)),toks:=s.toks + 1 + 1 }) :=
 .of_wp fun prog w A R s h=>by
  obtain ⟨ht,h⟩:=h
  unfold Builtin.«reversed.__new__»
  refine wpAny_bind (wpAny_of_eq (newClass_reversed _) ?_)
  try dsimp only
  refine wpAny_bind (wpAny_of_eq (a:=()) (by first | rfl | kernel_rfl) ?_)
  refine wpAny_bind (wpAny_of_eq (a:=()) (by first | rfl | kernel_rfl) ?_)
  try dsimp only
  refine wpAny_bind (wpAny_specialOf ht.typeIs zD ?_)
  try dsimp only
  refine wpAny_bind ?_
  show wpAny _ _ (isInstance (.ref t) (.type "dict") >>= _) _ _ s
  refine wpAny_bind (wpAny_isInstance (T := "tuple") (b:=false) ht.typeIs vK ?_)
  refine wpAny_ite_split (fun hab=>absurd hab (by decide)) (fun _ => ?_)
  refine wpAny_bind (wpAny_specialOf ht.typeIs BI.lookup ?_)
  refine wpAny_ite_split (fun _=>wpAny_pure ?_) (fun hab=>absurd (by decide +kernel) hab)
  refine wpAny_ite_split (fun hab=>absurd hab (by decide)) (fun _ => ?_)
  refine wpAny_bind (len_tuple ht hz ?_)
  refine wpAny_bind (wpAny_of_eq (a:=some (its.size:Int)) rfl ?_)
  refine wpAny_bind ?_
  show wpAny _ _ (newObj (.type "reversed") (.fields #[.ref t,rawInt ((its.size:Int) - 1)])) _ _ _
  exact wpAny_newObj_type (wpAny_pure ⟨_,rfl,h⟩)
theorem vL {t:Addr} {its:Array Value} {Q:Value->Shared->Prop} (ht:IsTup s.heap t its) (hz:(its.size:Int) < 2 ^ 63)
  (h:Q (.ref s.heap.objs.size) { s with heap:=s.heap.push (rvO t ((its.size:Int) - 1)),toks:=s.toks + 1 + 1 }):wpAny (model prog w) A (call (.type "reversed") [.ref t]) Q E s:=by
 refine callType_new called (by decide) (PySem.F.typeCall_reversed_1 _) (PySem.F.newCall_reversed_1 _) (fun obj=>EL obj _) PySem.F.entry_reversed_new (t9 t its hz) ⟨ht,?_⟩
 exact ⟨⟨_,A0 _ rfl,rfl⟩,h⟩
theorem next_item {I t:Addr} {i:Nat} {its:Array Value} {x:Value} {Q:Option Value->Shared->Prop} (hit:gI s.heap I t (i:Int)) (ht:IsTup s.heap t its) (hx:its[i]? = some x) (hi:(i:Int) < 2 ^ 63)
  (hQ:∀ h' tk,gI h' I t ((i:Int) - 1)->Heap.SameBut I s.heap h'->Q (some x) { s with heap:=h',toks:=tk }):wpAny (model prog w) A (pyNext (.ref I)) Q E s:=by
 obtain ⟨o,ho,hc,hd⟩:=id hit
 unfold pyNext
 refine wpAny_bind (wpAny_attempt (wpAny_callSpecial?_slot (name:=Str.ofString "__next__") hit.typeIs slot_next (wpAny_call_entry slot_next hit.typeIs entry_next ?_ (args_next _))))
 unfold Builtin.«reversed.__next__»
 refine wpAny_bind (wpAny_of_eq (a:=(Value.ref I,[])) rfl ?_)
 try dsimp only
 refine wpAny_bind (wpAny_field ho hd (x := .ref t) rfl ?_)
 refine wpAny_bind (wpAny_field ho hd (x:=rawInt (i:Int)) rfl ?_)
 show wpAny _ _ (if (i:Int) < 0 then _ else _) _ _ s
 rw [if_neg (by omega)]
 show wpAny _ _ (specialOf (.ref t) "__getitem__" >>= _) _ _ s
 refine wpAny_bind (wpAny_specialOf ht.typeIs BI.lookup ?_)
 refine wpAny_ite_split (fun hab=>absurd hab (by decide)) (fun _ => ?_)
 refine wpAny_bind (wpAny_mkInt ?_)
 refine wpAny_bind (wpAny_attempt ?_)
 refine PyProof.Rows.getItem_tuple (j:=i) ht (by omega) hi (seqIndex_of (by omega) (by have:=(Cb.mp hx).1; omega)) hx ?_
 refine wpAny_bind (wpAny_field ho hd (x:=rawInt (i:Int)) rfl ?_)
 show wpAny _ _ (setField (.ref I) 1 (rawInt ((i:Int) - 1)) >>= fun _=>ret x) _ _ _
 refine wpAny_bind (wpAny_setField ho hd (by simp) ?_)
 refine wpAny_pure ⟨x,rfl,wpAny_pure (hQ _ _ ?_ (DK ..))⟩
 exact ⟨_,Bv _ ho (Ek (CW hd _)),(Gi ..).trans hc,by rw [CW hd]; simp⟩
theorem next_end {I t:Addr} {Q:Option Value->Shared->Prop} (hh:A.handled=none) (hit:gI s.heap I t (-1))
  (hQ:∀ h',Heap.ExtBut I s.heap h'->Q none { s with heap:=h' }):wpAny (model prog w) A (pyNext (.ref I)) Q E s:=by
 obtain ⟨o,ho,hc,hd⟩:=id hit
 unfold pyNext
 refine wpAny_bind (wpAny_attempt (wpAny_callSpecial?_slot (name:=Str.ofString "__next__") hit.typeIs slot_next (wpAny_call_entry slot_next hit.typeIs entry_next ?_ (args_next _))))
 unfold Builtin.«reversed.__next__»
 refine wpAny_bind (wpAny_of_eq (a:=(Value.ref I,[])) rfl ?_)
 try dsimp only
 refine wpAny_bind (wpAny_field ho hd (x := .ref t) rfl ?_)
 refine wpAny_bind (wpAny_field ho hd (x:=rawInt (-1)) rfl ?_)
 show wpAny _ _ (if (-1:Int) < 0 then _ else _) _ _ s
 rw [if_pos (by decide)]
 refine wpAny_bind (wpAny_rule ?_)
 refine wpAny_bind ?_
 show wpAny _ _ (setField (.ref I) 1 (rawInt (-1)) >>= fun _=>setField (.ref I) 0 .none) _ _ s
 refine wpAny_bind (wpAny_setField ho hd (by simp) ?_)
 have h1:=Bv (Obj.mapFields fun fs=>fs.setIfInBounds 1 (rawInt (-1))) ho (Ek (CW hd _))
 refine wpAny_setField h1 (CW hd _) (by simp) ?_
 refine wpAny_bind ?_
 show wpAny _ _ (newExc (.type "StopIteration") [] >>= _) _ _ _
 refine wpAny_bind ?_
 simp only [newExc,newTuple]
 refine wpAny_bind (wpAny_newObj_type ?_ (by size_fits))
 refine wpAny_bind (m:=firstArgMember _ _) (wpAny_of_eq (a:=Value.none) (by first | rfl | (simp only [firstArgMember]; rfl)) ?_)
 refine wpAny_newObj_type ?_ (by size_fits)
 simp only [raiseNew]
 refine wpAny_bind (wpAny_handled ?_)
 first | rw [show A.in1.handled=none from hh] | rw [hh]
 refine wpAny_bind (wpAny_pure (wpAny_throw ?_))
 refine wpAny_bind (wpAny_isInstance (T := "StopIteration") (b:=true) ⟨_,A0 _ rfl,rfl⟩ isSubtype_stop ?_)
 refine wpAny_pure (hQ _ ?_)
 refine GG (GG (fun b o hb eo => ?_) _) _
 exact (Bd _ _ (BN hb)).trans ((Bd _ _ (BN hb)).trans eo)
theorem sf {I t:Addr} {i:Int} {Q:Value->Shared->Prop} (hit:gI s.heap I t i) (h:Q (.ref I) s):wpAny (model prog w) A (pyIter (.ref I)) Q E s:=by
 refine wpAny_pyIter_slot hit.typeIs mP (wpAny_call_entry mP hit.typeIs qT ?_ (t7 _))
 show wpAny _ _ (ret (.ref I)) _ _ s
 exact wpAny_pure ⟨_,rfl, "reversed",_,hit.typeIs,slot_next.lookup,h⟩
theorem mQ:Slot "reversed" "__length_hint__" "reversed.__length_hint__" :=
 .of (owner := "reversed") (n := "__length_hint__") ir (by decide +kernel) (by decide +kernel) (by decide +kernel)
  (by first | exact .inl (by decide +kernel) | exact .inr (by decide +kernel)) sub_self
theorem qU:entryFor table "reversed.__length_hint__" = some Builtin.«reversed.__length_hint__» := entryFor_of_tree (by kernel_rfl)
theorem uc (a:Value):argsOk "reversed.__length_hint__" ⟨[a],[]⟩:=by
 unfold argsOk; rw [signature?_of (id := "reversed.__length_hint__") (n:=['_', '_', 't', 'n', 'i', 'h', '_', 'h', 't', 'g', 'n', 'e', 'l', '_', '_']) (o:=['d', 'e', 's', 'r', 'e', 'v', 'e', 'r']) (by kernel_rfl) iX]; kernel_rfl
theorem ud {I t:Addr} {its:Array Value} {Q:Value->Shared->Prop} (hit:gI s.heap I t ((its.size:Int) - 1)) (ht:IsTup s.heap t its) (hz:(its.size:Int) < 2 ^ 63)
  (h:∀ u tk,Q (.int its.size u) { s with toks:=tk }):wpAny (model prog w) A (call (.builtin "reversed.__length_hint__") [.ref I]) Q E s:=by
 obtain ⟨o,ho,hc,hd⟩:=id hit
 refine wpAny_call_entry mQ hit.typeIs qU ?_ (uc _)
 unfold Builtin.«reversed.__length_hint__»
 refine wpAny_bind (wpAny_of_eq (a:=Value.ref I) rfl ?_)
 refine wpAny_bind (wpAny_field ho hd (x := .ref t) rfl ?_)
 refine wpAny_ite_split (fun hab=>absurd hab (show ¬ (false=true) from A9)) (fun _ => ?_)
 refine wpAny_bind (len_tuple ht hz ?_)
 refine wpAny_bind (wpAny_of_eq (a:=some (its.size:Int)) rfl ?_)
 refine wpAny_bind (wpAny_field ho hd (x:=rawInt ((its.size:Int) - 1)) rfl ?_)
 show wpAny _ _ (if (its.size:Int) < ((its.size:Int) - 1) + 1 then _ else retInt (((its.size:Int) - 1) + 1)) _ _ _
 rw [if_neg (by omega),show ((its.size:Int) - 1) + 1=its.size by omega]
 exact wpAny_bind (wpAny_mkInt (wpAny_pure ⟨_,rfl,h _ _⟩))
theorem xN {I t:Addr} {its:Array Value} {Q:Bool->Shared->Prop} (hit:gI s.heap I t ((its.size:Int) - 1)) (ht:IsTup s.heap t its) (hz:its.size<=2 ^ 24) (h:∀ b tk,Q b { s with toks:=tk }):wpAny (model prog w) A (Builtin.List.listLengthHint (.ref I)) Q E s:=by
 unfold Builtin.List.listLengthHint
 refine wpAny_bind (wpAny_specialOf hit.typeIs qP ?_)
 wp_delta
 refine wpAny_bind (wpAny_specialOf hit.typeIs ir ?_)
 generalize hid:("reversed.__length_hint__" : String)=id0
 wp_delta
 rw [show splitId id0=some ("reversed", "__length_hint__") from by subst hid; decide +kernel]
 subst hid
 refine wpAny_bind (wpAny_isInstance (T := "reversed") (b:=true) hit.typeIs sub_self ?_)
 refine wpAny_ite_split (fun hab=>absurd hab (by decide)) (fun _ => ?_)
 refine wpAny_ite_split (fun hab=>absurd hab (by decide +kernel)) (fun _ => ?_)
 refine wpAny_bind (wpAny_rule ?_)
 refine wpAny_bind (wpAny_of_eq (mQ.bind _) ?_)
 refine wpAny_bind (wpAny_attempt (ud hit ht (by omega) fun u tk => ?_))
 show wpAny _ A (asInt? (.int (its.size:Int) u) >>= _) Q E _
 have ea:asInt? (Value.int (its.size:Int) u)=pure (some (its.size:Int)):=rfl
 rw [ea,pure_bind]
 generalize hn:(its.size:Int)=n
 dsimp only
 refine wpAny_ite_split (fun hab=>absurd hab ?_) (fun _ => ?_)
 ·unfold Builtin.List.listFitsIndex; simp; omega
 refine wpAny_ite_split (fun hab=>absurd hab (by omega)) (fun _ => ?_)
 refine wpAny_ite_split (fun hab=>absurd hab ?_) (fun _ => ?_)
 ·rw [L2.jW (by rw [sizeLine_eq]; omega)]; exact A9
 exact wpAny_pure (h _ _)
end
theorem walk {prog:Program} {w:World} {A:Around} (hh:A.handled=none) (I t:Addr) (hne:t ≠ I) (its:Array Value) (hz:(its.size:Int) < 2 ^ 63) :
  Walks prog w A I [I,t] [I] its.size (fun i v=>its[its.size - 1 - i]? = some v) (fun i h=>i<=its.size/\gI h I t ((its.size:Int) - 1 - (i:Int))/\IsTup h t its) where
 sub:=fun b hb=>by simp at hb; simp [hb]
 frame:=fun _ _ _ x hk=>⟨x.1,x.2.1.at fun o e=>hk I (by simp) o e,pF x.2.2 fun o e=>hk t (by simp) o e⟩
 item:=fun i s Q E hi x hQ=>by
  have e:(its.size:Int) - 1 - (i:Int)=((its.size - 1 - i:Nat):Int):=by omega
  have hit:=x.2.1
  rw [e] at hit
  have hx:its[its.size - 1 - i]? = some (its[its.size - 1 - i]'(by omega)):=Be (by omega)
  refine next_item hit x.2.2 hx (by omega) fun h' tk hit' hs' => ?_
  have e2:((its.size - 1 - i:Nat):Int) - 1=(its.size:Int) - 1 - ((i + 1:Nat):Int):=by omega
  rw [e2] at hit'
  exact hQ _ h' tk hx ⟨hi,hit',pF x.2.2 fun o eo=>(hs'.2 t hne).trans eo⟩ fun b o hb eo=>hs'.extBut b o (fun h=>hb (by simp [h])) eo
 done:=fun s Q E x hQ=>by
  have e:(its.size:Int) - 1 - (its.size:Int) = -1:=by omega
  have hit:=x.2.1
  rw [e] at hit
  exact next_end hh hit fun h' he'=>hQ h' s.toks fun b o hb eo=>he' b o (fun h=>hb (by simp [h])) eo
 self:=fun _ _ _ _ x hQ=>sf x.2.1 hQ
section
variable {prog:Program} {w:World} {A:Around} {E:Value->Shared->Prop} {s:Shared}
theorem ue {R:Result->Shared->Prop} {I t:Addr} {items:Array Value} (hh:A.handled=none) (hit:gI s.heap I t ((items.size:Int) - 1)) (hl:IsTup s.heap t items) (hne:t ≠ I) (hlen:items.size<=2 ^ 24)
  (S:Addr) (hSI:S ≠ I) (hSl:S ≠ t) (res:Value) (c₀:Nat) (hS:s.heap.get? S=some { cls := .type "list",data := .seq #[] c₀ })
  (hR:∀ h' tk acc' c',(∀ b o,b ≠ S->b ≠ I->s.heap.get? b=some o->h'.get? b=some o)->h'.get? S=some { cls := .type "list",dict:=none,data := .seq acc' c',slots := #[] } →
   ItemsOf (fun i v=>items[items.size - 1 - i]? = some v) acc' items.size->R (.ok (.ret res)) { s with heap:=h',toks:=tk }) :
  wpAny (model prog w) A.in1 (Builtin.List.listExtendWith (.ref S) (.ref I) res)
   (fun fin s'=>match fin with | .done f=>R (.ok f) s' | .again c'=>c'.quiet=true/\codeAny (model prog w) A c' R s') (fun e s'=>R (.error e) s') s:=by
 have hSf:S ∉ [I,t]:=fun hm=>by
  rcases A6.mp hm with e | hm
  ·exact hSI e
  ·exact hSl (AV.mp hm)
 have W:=(walk (prog:=prog) (w:=w) (A:=A.in1) hh I t hne items (by omega)).toS
 unfold Builtin.List.listExtendWith
 refine wpAny_bind (wpAny_typeOf (T := "reversed") hit.typeIs ?_)
 have h1:Builtin.List.listSameRef (.ref S) (.ref I)=false:=by simp [Builtin.List.listSameRef,hSI]
 have h2:(Value.type "reversed" == Value.type "list")=false:=by decide +kernel
 have h3:(Value.type "reversed" == Value.type "tuple")=false:=by decide +kernel
 simp only [h1,h2,h3,F0,A8,if_false]
 refine wpAny_bind (sf hit ?_)
 refine wpAny_bind (wpAny_holding (xN hit hl hlen fun b tk => ?_))
 refine wpAny_ite_split (fun _ => ?_) (fun _=>wpAny_pure ⟨plainId_quiet E1 _,?_⟩)
 ·refine wpAny_bind (wpAny_rule ?_)
  refine wpAny_bind ?_
  show wpAny _ A.in1 (updateSeq S (·.push .none) >>= fun _=>updateSeq S (·.pop)) _ _ _
  refine wpAny_bind (wpAny_updateSeq hS rfl ?_)
  have hS₂:=Bv (Obj.mapSeq (·.push Value.none)) hS rfl
  refine wpAny_updateSeq (hz:=by seq_fits) hS₂ rfl ?_
  have hS₃:=Bv (Obj.mapSeq (·.pop)) hS₂ rfl
  have oth:∀ b o,b ≠ S->s.heap.get? b=some o->((s.heap.update S (Obj.mapSeq (·.push Value.none))).update S (Obj.mapSeq (·.pop))).get? b=some o :=
   fun b o hb e=>(Bd _ _ (BN hb)).trans ((Bd _ _ (BN hb)).trans e)
  refine wpAny_pure ⟨plainId_quiet E1 _,codeAny_extend_loopS W (by rw [sizeLine_eq]; omega) S hSf res items.size 0 _ _ _ rfl (Br _) ⟨Br _,by simpa using hit.at fun o e=>oth I o (BN hSI) e,pF hl fun o e=>oth t o (BN hSl) e⟩ hS₃ (GR _) fun s' acc' c' hm hS' hacc => ?_⟩
  rw [Gb hm]
  refine hR s'.heap s'.toks acc' c' (fun b o hb hbI e=>hm.heap b o (fun hmem => ?_) (oth b o hb e)) hS' hacc
  rcases A6.mp hmem with e' | hmem
  ·exact hb e'
  ·exact hbI (AV.mp hmem)
 refine codeAny_extend_loopS W (by rw [sizeLine_eq]; omega) S hSf res items.size 0 _ #[] c₀ rfl (Br _) ⟨Br _,by simpa using hit,hl⟩ hS (GR _) fun s' acc' c' hm hS' hacc => ?_
 rw [Gb hm]
 refine hR s'.heap s'.toks acc' c' (fun b o hb hbI e=>hm.heap b o (fun hmem => ?_) e) hS' hacc
 rcases A6.mp hmem with e' | hmem
 ·exact hb e'
 ·exact hbI (AV.mp hmem)
theorem qV {R:List Value->Shared->Prop} {I t:Addr} {items:Array Value} (hh:A.handled=none) (hit:gI s.heap I t ((items.size:Int) - 1)) (hl:IsTup s.heap t items) (hne:t ≠ I) (hlen:items.size<=2 ^ 24)
    (h:∀ (h1:Heap) (tk:Nat) (vs:List Value),vs=items.toList.reverse->(∀ b o,b ≠ I->s.heap.get? b=some o->h1.get? b=some o)->R vs { s with heap:=h1,toks:=tk }) :
    wpAny (model prog w) A (collect (.ref I)) R E s:=by
  obtain ⟨oi,hoi,_⟩:=id hit
  obtain ⟨ol,hol,_⟩:=id hl
  unfold collect
  refine wpAny_bind (wpAny_runValue (codeAny_builtin PySem.F.entry_proto_collect ?_))
  rw [BA PySem.F.plain_proto_collect _]
  show wpAny _ A.in1 (newList [] >>= fun l=>again (.builtin "list.__iadd__" ⟨[l,.ref I],[]⟩)) _ _ s
  refine wpAny_bind (wpAny_newObj_type ?_)
  refine wpAny_pure ⟨plainId_quiet Fh _,codeAny_builtin PySem.F.entry_list_iadd ?_⟩
  rw [BA Fh _]
  show wpAny _ A.in1 (Builtin.List.listExtendWith (.ref s.heap.objs.size) (.ref I) (.ref s.heap.objs.size)) _ _ { s with heap:=s.heap.push { cls := .type "list",data := .seq ([]:List Value).toArray } }
  have hS0:(s.heap.push { cls := .type "list",data := .seq ([]:List Value).toArray }).get? s.heap.objs.size=some { cls := .type "list",data := .seq #[] 0 }:=A0 _ rfl
  refine ue (A:=A) (R:=fun res s'=>match res with
      | .ok (.ret v)=>wpAny (model prog w) A (match v with | .ref a=>(do match (← load a).data with | .seq xs _=>pure xs.toList | _=>unsupported "internal:collect") | _=>unsupported "internal:collect") R E s'
      | .ok _=>False
      | .error e=>E e s') (s:={ s with heap:=s.heap.push { cls := .type "list",data := .seq ([]:List Value).toArray } }) hh (hit.at fun o e=>AN _ e) (pF hl fun o e=>AN _ e) hne hlen s.heap.objs.size (BN (A5 (A1 hoi))) (BN (A5 (A1 hol))) (.ref s.heap.objs.size) 0 hS0 fun h' tk acc' c' kk hS' it => ?_
  show wpAny _ A (load s.heap.objs.size >>= _) _ _ { s with heap:=h',toks:=tk }
  refine wpAny_bind (wpAny_load hS' ?_)
  refine wpAny_pure (h h' tk acc'.toList ?_ fun b o hb e=>kk b o (A5 (A1 e)) hb (AN _ e))
  refine Cy fun j => ?_
  rw [A3]
  have h1:acc'.size=items.toList.length:=it.1
  by_cases hj:j < items.toList.length
  · obtain ⟨v,hv⟩:∃ v,acc'[j]? = some v:=⟨acc'[j]'(by omega),Be _⟩
    have:=it.2 j v hv
    dsimp only at this
    rw [<- A3] at this
    rw [hv,FA hj, <- this]
    rfl
  · rw [Cq (by omega),Bl (by rw [Cf]; omega)]
theorem jA (I t:Addr) (items:Array Value) (hne:t ≠ I) (hn:items.size<=1000) :
  Meets (Builtin.«tuple.__new__» ⟨[.type "tuple",.ref I],[]⟩)
   (fun A R s=>A.handled=none/\gI s.heap I t ((items.size:Int) - 1)/\IsTup s.heap t items/\∀ (h':Heap) (tk:Nat),(∀ b o',b ≠ I->s.heap.get? b=some o'->h'.get? b=some o')->R (.ok (.ret (.ref h'.objs.size))) { s with heap:=h'.push { cls := .type "tuple",data := .seq items.toList.reverse.toArray },toks:=tk }) :=
 .of_wp fun prog w A R s h=>by
  obtain ⟨hp,g,d,tk,os⟩:=s; obtain ⟨hh,hr,ht,h⟩:=h
  have hsub:=sub_tuple_self
  have hinit:=init_tuple_lookup
  have hmh:=madeHere_tuple
  have hT:Shared.TypeIs ⟨hp,g,d,tk,os⟩ (.ref I) "reversed" := gI.typeIs (s:=⟨hp,g,d,tk,os⟩) hr
  wp_walk using wpAny_typeOf hT,qV (by simpa using hh) hr ht hne (by omega)
  rintro h' tk' vs rfl hk
  show wpAny _ _ (Builtin.Tuple.tupleExact items.toList.reverse.toArray >>= fun v=>ret v) _ _ _
  unfold Builtin.Tuple.tupleExact
  refine wpAny_bind (wpAny_newObj_type ?_ (by show items.toList.reverse.toArray.size<=sizeLine; rw [AR,Cf,AW]; exact small hn))
  exact wpAny_pure ⟨_,rfl,h h' tk' hk⟩
end
end L2.RvT
namespace L2
open PySem PySem.Spec PyProof.Rows
section
variable {X:Cx}
theorem uf:bootBuiltins "tuple" = some (.type "tuple"):=by decide +kernel
def xO (K:PySem.W.Frag) (te:TE):TE:=fun σ H Q=>te σ H fun x H1=>∃ l xs,x = .ref l/\SqT K H1 l xs/\xs.length<=1000/\∀ p,H1 p=none->Q (.ref p) (upd H1 p (.tup xs.reverse))
theorem ug {e:Expr} {te:TE} {p1 p2 pos1 pos2:Pos} (hh:X.A.handled=none) (hg1:Gl X "tuple") (hm1:X.mg "tuple" = none) (hg2:Gl X "reversed") (hm2:X.mg "reversed" = none) (he:PE X e te)
  (hs1:starEach [Expr.Call (.Name "reversed" p2) [e] [] pos2] X.env=(false,eval (.Call (.Name "reversed" p2) [e] [] pos2) X.env) :: starEach [] X.env:=by rfl) (hp1:(backTo pos1 (starEach [] X.env)).any (·.1)=false:=by rfl)
  (hs2:starEach [e] X.env=(false,eval e X.env) :: starEach [] X.env:=by rfl) (hp2:(backTo pos2 (starEach [] X.env)).any (·.1)=false:=by rfl) :
  PE X (.Call (.Name "tuple" p1) [.Call (.Name "reversed" p2) [e] [] pos2] [] pos1) (xO X.K te):=by
 intro pins s σ H Q I h
 refine wpAny_Call_Name_kw (dk I hg1 hm1 uf ?_ (by decide) (by decide))
 refine BR ?_ hs1 hp1
 rw [hs1]
 show wpAny _ _ (spliced ((false,eval (.Call (.Name "reversed" p2) [e] [] pos2) X.env) :: backTo pos1 (starEach [] X.env))) _ _ s
 refine EM ?_
 refine wpAny_Call_Name_kw (dk I hg2 hm2 fS ?_ (by decide) (by decide))
 refine BR (thn ((aa he ag hs2) pos2 pins s σ H (fun vs H1=>match vs with | [x]=>∃ l xs,x = .ref l/\SqT X.K H1 l xs/\xs.length<=1000/\∀ p,H1 p=none->Q (.ref p) (upd H1 p (.tup xs.reverse)) | _=>False) I ?_) fun us s1 ⟨vs,H1,I1,r1,q1⟩ => ?_) hs2 hp2
 ·exact h
 ·match vs,q1 with
  | [x],q1 =>
  obtain ⟨t,xs,rfl,hx,h1000,q⟩:=q1
  obtain ⟨u,rfl,ru⟩:=vals1 r1
  cases (show u=Value.ref t from ru)
  obtain ⟨its,r,ht,hz⟩:=I1.tuple hx
  have ll:=r.length
  have lz:its.toArray.size=xs.length:=by rw [AR]; exact ll.symm
  refine RvT.vL ht (by rw [lz]; omega) ?_
  refine E2 ?_
  obtain ⟨ot,hot,_⟩:=id ht
  refine callType_new PySem.F.called_tuple (by decide) (PySem.F.typeCall_tuple_1 _) (PySem.F.newCall_tuple_1 _) (fun obj=>EL obj _) PySem.F.entry_tuple_new
   (RvT.jA s1.heap.objs.size t its.toArray (A5 (A1 hot)) (by rw [lz]; exact h1000)) ⟨by simpa using hh,⟨_,A0 _ rfl,rfl,rfl⟩,RvT.pF ht (fun o e=>AN _ e),fun h' tk k=>⟨⟨_,A0 _ rfl,rfl⟩,?_⟩⟩
  have I2:Inv X pins σ H1 { s1 with heap:=h',toks:=tk }:=I1.kept fun b o e=>k b o (A5 (A1 e)) (AN _ e)
  exact ⟨.ref h'.objs.size,_,I2.laid (o := .tup xs.reverse) (fun b ob q=>AN _ q) (AS _) ⟨by rw [Cf]; exact small h1000,its.reverse,kB r,d0.new _ _⟩,rfl,q _ (I2.hok.fresh (AS _))⟩
theorem gw:SlR X (fun x lo hi H Q=>∃ a xs,x = .ref a/\H a=some (.tup xs)/\∀ p2 H2,aB H H2->H2 p2=some (.tup (fD xs lo hi))->Q (.ref p2) H2):=by
 intro pins s σ H x v vl vu lo hi sl Q I rx hs pl pu h
 obtain ⟨a,xs,rfl,ep,key⟩:=h
 refine xC pins s σ H _ v vl vu lo hi sl Q I rx hs pl pu ⟨a,xs,rfl,SqT.of ep,fun z=>key a H (aB.refl _) ?_,fun _ p2 hp2=>key p2 _ (ae hp2 _) af⟩
 unfold fD
 rw [z.1,z.2,Eg,Fw,GH]
 exact ep
theorem pG:OpR X (binaryOp .Add) (fun x y H Q=>∃ a b xs ys,x = .ref a/\y = .ref b/\H a=some (.tup xs)/\H b=some (.tup ys)/\xs.length + ys.length<=sizeLine/\∀ p H',aB H H'->H' p=some (.tup (xs ++ ys))->Q (.ref p) H'):=by
 intro pins s σ H x y v u Q I rx ry h
 obtain ⟨a,b,xs,ys,rfl,rfl,ha,hb,hz,q⟩:=h
 exact vI pins s σ H _ _ v u Q I rx ry (sd.one ha hb hz q)
end
end L2
namespace L2.MnT
open PySem PyProof.Rows
section
variable {prog:Program} {w:World} {A:Around} {E:Value->Shared->Prop} {I:Addr} {fp wr:List Addr} {n:Nat} {P:Nat->Value->Prop} {St:Nat->Heap->Prop}
def Cmp (prog:Program) (w:World) (A:Around) (P:Nat->Value->Prop) (St:Nat->Heap->Prop) (bt:Nat->Nat->Bool):Prop :=
 ∀ k i j x y (s:Shared) (Q E:Value->Shared->Prop),St k s.heap->P i x->P j y->Q (.bool (bt i j)) s->wpAny (model prog w) A (richCompare .Lt x y) Q E s
abbrev Bag (S:Addr) (xs:Array Value) (c:Nat) (h:Heap):Prop:=h.get? S=some { cls := .type "list",dict:=none,data := .seq xs c,slots := #[] }
abbrev Kept (wr:List Addr) (S:Addr) (h h':Heap):Prop:=∀ b o,b ∉ wr->b ≠ S->h.get? b=some o->h'.get? b=some o
theorem loop {R:Result->Shared->Prop} (W:Walks prog w A.in1 I fp wr n P St) {bt:Nat->Nat->Bool} (C:Cmp prog w A.in1 P St bt) {S:Addr} (nS:S ∉ fp):∀ (d j:Nat) (s:Shared) (best:Value) (c:Nat),n=j + 1 + d->St (j + 1) s.heap->P (argBest bt j) best->Bag S #[best,best] c s.heap →
  (∀ v h' tk,P (argBest bt (n - 1)) v->Kept wr S s.heap h'->R (.ok (.ret v)) { s with heap:=h',toks:=tk })->codeAny (model prog w) A (.builtin "min.loop" ⟨[.ref I,.none,.ref S],[]⟩) R s:=by
 have nw:S ∉ wr:=fun h=>nS (W.sub _ h)
 have nm:(toString "min" ++ toString ".loop" : String) = "min.loop" := by decide
 intro d
 induction d with
 | zero =>
  intro j s best c hn st pb bg hR
  have e:j + 1=n:=by omega
  rw [e] at st
  refine codeAny_builtin Cs ?_
  rw [BA Bu _]
  show wpAny _ _ (seqItems? (.ref S) >>= _) _ _ s
  refine wpAny_bind (wpAny_seqItems bg rfl ?_)
  show wpAny _ _ (tryCatch (pyNext (.ref I)) _ >>= _) _ _ s
  refine wpAny_bind (wpAny_tryCatch (W.done s _ _ st fun h1 tk kp => ?_))
  show wpAny _ _ (updateSeq S (fun _ => #[]) >>= _) _ _ _
  refine wpAny_bind ?_
  refine wpAny_updateSeq (kp S _ nw bg) rfl (wpAny_bind (wpAny_letGo (wpAny_pure (hR best _ tk (by rw [<- e]; exact pb) ?_))))
  exact fun b o nb ns eb=>(Bd _ _ (BN ns)).trans (kp b o nb eb)
 | succ d ih =>
  intro j s best c hn st pb bg hR
  refine codeAny_builtin Cs ?_
  rw [BA Bu _]
  show wpAny _ _ (seqItems? (.ref S) >>= _) _ _ s
  refine wpAny_bind (wpAny_seqItems bg rfl ?_)
  show wpAny _ _ (tryCatch (pyNext (.ref I)) _ >>= _) _ _ s
  refine wpAny_bind (wpAny_tryCatch (W.item (j + 1) s _ _ (by omega) st fun v h1 tk pv st1 kp => ?_))
  have bg1:=kp S _ nw bg
  show wpAny _ _ (tryCatch (holding [v,v] (richCompare .Lt v best >>= _)) _ >>= _) _ _ _
  refine wpAny_bind (wpAny_tryCatch (wpAny_holding (wpAny_bind (C (j + 1 + 1) (j + 1) (argBest bt j) v best _ _ _ st1 pv pb ?_))))
  refine wpAny_bind (wpAny_holding (wpAny_truthy_bool ?_))
  refine wpAny_bind (wpAny_letGo (wpAny_pure ?_))
  by_cases hb:bt (j + 1) (argBest bt j)=true
  ·have ea:argBest bt (j + 1)=j + 1:=by simp only [argBest,hb,if_true]
   rw [hb]
   simp only [if_true]
   refine wpAny_bind ?_
   refine wpAny_updateSeq bg1 rfl (wpAny_bind (wpAny_letGo ?_))
   rw [nm]
   refine wpAny_pure ⟨plainId_quiet Bu _,ih (j + 1) _ v _ (by omega) (W.frame _ _ _ st1 fun b fb o eb => ?_) (by rw [ea]; exact pv) (Bv _ bg1 rfl) fun v2 h2 tk2 p2 k2=>hR v2 h2 tk2 p2 fun b o nb ns eb=>k2 b o nb ns ?_⟩
   ·exact (Bd _ _ (fun z:S=b=>nS (z ▸ fb))).trans eb
   ·exact (Bd _ _ (BN ns)).trans (kp b o nb eb)
  ·have ea:argBest bt (j + 1)=argBest bt j:=by simp only [argBest,hb]; rfl
   rw [DB.mpr hb]
   simp only [A8,if_false]
   refine wpAny_bind (wpAny_letGo ?_)
   rw [nm]
   exact wpAny_pure ⟨plainId_quiet Bu _,ih (j + 1) _ best c (by omega) st1 (by rw [ea]; exact pb) bg1 fun v2 h2 tk2 p2 k2=>hR v2 h2 tk2 p2 fun b o nb ns eb=>k2 b o nb ns (kp b o nb eb)⟩
theorem first {R:Result->Shared->Prop} (W:Walks prog w A.in1 I fp wr n P St) {bt:Nat->Nat->Bool} (C:Cmp prog w A.in1 P St bt) {S:Addr} (nS:S ∉ fp) (hn:0 < n) {s:Shared} {c:Nat} (st:St 0 s.heap) (bg:Bag S #[] c s.heap)
  (hR:∀ v h' tk,P (argBest bt (n - 1)) v->Kept wr S s.heap h'->R (.ok (.ret v)) { s with heap:=h',toks:=tk }):codeAny (model prog w) A (.builtin "min.loop" ⟨[.ref I,.none,.ref S],[]⟩) R s:=by
 have nw:S ∉ wr:=fun h=>nS (W.sub _ h)
 have nm:(toString "min" ++ toString ".loop" : String) = "min.loop" := by decide
 refine codeAny_builtin Cs ?_
 rw [BA Bu _]
 show wpAny _ _ (seqItems? (.ref S) >>= _) _ _ s
 refine wpAny_bind (wpAny_seqItems bg rfl ?_)
 show wpAny _ _ (tryCatch (pyNext (.ref I)) _ >>= _) _ _ s
 refine wpAny_bind (wpAny_tryCatch (W.item 0 s _ _ hn st fun v h1 tk pv st1 kp => ?_))
 have bg1:=kp S _ nw bg
 show wpAny _ _ (updateSeq S (fun _ => #[v,v]) >>= _) _ _ _
 refine wpAny_bind ?_
 refine wpAny_updateSeq bg1 rfl ?_
 rw [nm]
 refine wpAny_pure ⟨plainId_quiet Bu _,loop W C nS (n - 1) 0 _ v _ (by omega) (W.frame _ _ _ st1 fun b fb o eb => ?_) pv (Bv _ bg1 rfl) fun v2 h2 tk2 p2 k2=>hR v2 h2 tk2 p2 fun b o nb ns eb=>k2 b o nb ns ?_⟩
 ·exact (Bd _ _ (fun z:S=b=>nS (z ▸ fb))).trans eb
 ·exact (Bd _ _ (BN ns)).trans (kp b o nb eb)
def Goes (prog:Program) (w:World) (A:Around) (Q:Value->Shared->Prop) (it:Value) (s:Shared):Prop:=∃ I fp wr n P St bt,it = .ref I/\Walks prog w A.in1 I fp wr n P St/\St 0 s.heap/\(∀ b ∈ fp,b < s.heap.objs.size)/\0 < n/\Cmp prog w A.in1 P St bt ∧
 ∀ v h' tk,P (argBest bt (n - 1)) v->(∀ b o,b ∉ wr->s.heap.get? b=some o->h'.get? b=some o)->Q v { s with heap:=h',toks:=tk }
theorem AA {s:Shared} {x:Value} {Q:Value->Shared->Prop} (h:wpAny (model prog w) A.in1 (pyIter x) (Goes prog w A Q) E s):wpAny (model prog w) A (call (.builtin "min") [x]) Q E s:=by
 have nm:(toString "min" ++ toString ".loop" : String) = "min.loop" := by decide
 refine call_function_tree Fl E7 E8 (PySem.F.args_min1 _) ?_
 show wpAny _ _ (Builtin.Builtins.bindParams "min" ["key", "default"] 0 ⟨[],[]⟩ >>= _) _ _ s
 refine wpAny_bind (wpAny_of_eq (a:=[none,none]) rfl ?_)
 refine wpAny_bind (wpAny_pure ?_)
 refine wpAny_bind (wpAny_mono h (fun it s2 g => ?_) fun _ _ e=>e)
 obtain ⟨I,fp,wr,n,P,St,bt,rfl,W,st,hf,hn,C,hq⟩:=g
 refine wpAny_bind (wpAny_newObj_type ?_)
 rw [nm]
 refine wpAny_pure ⟨plainId_quiet Bu _,first W C (S:=s2.heap.objs.size) (fun hm=>BB _ (hf _ hm)) hn (W.frame _ _ _ st fun b _ o e=>AN _ e) (A0 _ rfl) fun v h' tk pv kp => ?_⟩
 exact hq v h' tk pv fun b o nb e=>kp b o nb (A5 (A1 e)) (AN _ e)
theorem call2 {s:Shared} {a b:Value} {Q:Value->Shared->Prop} (h:wpAny (model prog w) A.in1 (pyIter (.ref s.heap.objs.size)) (Goes prog w A Q) E { s with heap:=s.heap.push { cls := .type "tuple",data := .seq #[a,b] } }):wpAny (model prog w) A (call (.builtin "min") [a,b]) Q E s:=by
 have nm:(toString "min" ++ toString ".loop" : String) = "min.loop" := by decide
 refine call_function_tree Fl E7 E8 (PySem.F.args_min2 _ _) ?_
 show wpAny _ _ (Builtin.Builtins.bindParams "min" ["key", "default"] 0 ⟨[],[]⟩ >>= _) _ _ s
 refine wpAny_bind (wpAny_of_eq (a:=[none,none]) rfl ?_)
 show wpAny _ _ (newTuple [a,b] >>= _) _ _ s
 refine wpAny_bind (wpAny_newObj_type ?_)
 refine wpAny_bind (wpAny_mono h (fun it s2 g => ?_) fun _ _ e=>e)
 obtain ⟨I,fp,wr,n,P,St,bt,rfl,W,st,hf,hn,C,hq⟩:=g
 refine wpAny_bind (wpAny_newObj_type ?_)
 rw [nm]
 refine wpAny_pure ⟨plainId_quiet Bu _,first W C (S:=s2.heap.objs.size) (fun hm=>BB _ (hf _ hm)) hn (W.frame _ _ _ st fun b _ o e=>AN _ e) (A0 _ rfl) fun v h' tk pv kp => ?_⟩
 exact hq v h' tk pv fun b o nb e=>kp b o nb (A5 (A1 e)) (AN _ e)
def TI (h:Heap) (t:Addr × List Int):Prop:=∃ its:Array Value,IsTup h t.1 its/\IntsAre its.toList t.2
theorem TI.at {h h':Heap} {t:Addr × List Int} (x:TI h t) (e:∀ o,h.get? t.1=some o->h'.get? t.1=some o):TI h' t:=let ⟨its,⟨o,ho,r⟩,y⟩:=x; ⟨its,⟨o,e o ho,r⟩,y⟩
theorem more (W:Walks prog w A I fp wr n P St) (ts:List (Addr × List Int)) (nw:∀ t ∈ ts,t.1 ∉ wr):Walks prog w A I (fp ++ ts.map (·.1)) wr n P (fun i h=>St i h/\∀ t ∈ ts,TI h t) where
 sub:=fun b hb=>A2.mpr (.inl (W.sub b hb))
 frame:=fun i h h' x hk=>⟨W.frame i h h' x.1 fun b hb o e=>hk b (A2.mpr (.inl hb)) o e,fun t ht=>(x.2 t ht).at (hk t.1 (A2.mpr (.inr (BK (f:=(·.1)) ht))))⟩
 item:=fun i s Q E hi x hQ=>W.item i s Q E hi x.1 fun v h' tk pv st' kp=>hQ v h' tk pv ⟨st',fun t ht=>(x.2 t ht).at fun o=>kp t.1 o (nw t ht)⟩ kp
 done:=fun s Q E x hQ=>W.done s Q E x.1 hQ
 self:=fun i s Q E x hQ=>W.self i s Q E x.1 hQ
theorem cmp (ts:List (Addr × List Int)) (hu:A.units < cLine) (hP:∀ i v,P i v->∃ t,ts[i]? = some t/\v = .ref t.1):Cmp prog w A P (fun i h=>St i h/\∀ t ∈ ts,TI h t) (fun i j=>HT.lexLt (ts.getD i (0,[])).2 (ts.getD j (0,[])).2):=by
 intro k i j x y s Q E st hx hy h
 obtain ⟨t,et,rfl⟩:=hP i x hx
 obtain ⟨u,eu,rfl⟩:=hP j y hy
 obtain ⟨i1,p1,a1⟩:=st.2 t (AY et)
 obtain ⟨i2,p2,a2⟩:=st.2 u (AY eu)
 dsimp only at h
 rw [AZ,AZ,et,eu] at h
 exact HT.qo p1 p2 a1 a2 hu h
theorem best (g:Nat->List Int):∀ k,(argBest (fun i j=>HT.lexLt (g i) (g j)) k<=k)/\∀ j,j<=k->HT.lexLt (g j) (g (argBest (fun i j=>HT.lexLt (g i) (g j)) k))=false
 | 0=>⟨AS _,fun j hj=>by rw [GU.mp hj]; exact Srt.lex_irrefl _⟩
 | k + 1=>by
  obtain ⟨l,ih⟩:=best g k
  by_cases hb:HT.lexLt (g (k + 1)) (g (argBest (fun i j=>HT.lexLt (g i) (g j)) k))=true
  ·have ea:argBest (fun i j=>HT.lexLt (g i) (g j)) (k + 1)=k + 1:=by simp only [argBest,hb,if_true]
   rw [ea]
   refine ⟨AS _,fun j hj => ?_⟩
   by_cases e:j=k + 1
   ·rw [e]; exact Srt.lex_irrefl _
   ·refine DB.mpr fun z => ?_
    have:=ih j (by omega)
    rw [Srt.lex_trans _ _ _ z hb] at this
    cases this
  ·have ea:argBest (fun i j=>HT.lexLt (g i) (g j)) (k + 1)=argBest (fun i j=>HT.lexLt (g i) (g j)) k:=by simp only [argBest,hb]; rfl
   rw [ea]
   refine ⟨by omega,fun j hj => ?_⟩
   by_cases e:j=k + 1
   ·rw [e]; exact DB.mpr hb
   ·exact ih j (by omega)
end
end L2.MnT
namespace L2
open PySem PySem.Spec PyProof.Rows
section
variable {X:Cx}
theorem qW (hc:X.calm=true) (hu:X.A.units + 8 < cLine):bJ X (.builtin "min") (fun xs H Q=>∃ (p:Addr) (ts:List (Addr × List Int)),xs=[.ref p]/\SqL X.K H p (ts.map fun t => .ref t.1)/\(∀ t ∈ ts,SqT X.K H t.1 (t.2.map V.int))/\ts ≠ []/\∀ t ∈ ts,(∀ u ∈ ts,HT.lexLt u.2 t.2=false)->Q (.ref t.1) H):=by
 intro pins s σ H xs us Q I r h
 obtain ⟨p,ts,rfl,hS,hT,hne,q⟩:=h
 obtain ⟨u,rfl,ru⟩:=vals1 r
 cases (show u=Value.ref p from ru)
 obtain ⟨its,r1,p1,_⟩:=I.list hS
 have hl:s.heap.IsList p its.toArray:=p1.isList
 have ll:=r1.length
 rw [AM] at ll
 have hp:0 < ts.length:=Cz.mpr hne
 have TIs:∀ t ∈ ts,MnT.TI s.heap t:=fun t ht=>by
  obtain ⟨i2,r2,p2,_⟩:=I.tuple (hT t ht)
  exact ⟨_,p2,intsAre_of r2⟩
 have hlt:∀ t ∈ ts,t.1 < s.heap.objs.size:=fun t ht=>by
  obtain ⟨_,⟨o,ho,_⟩,_⟩:=TIs t ht
  exact A1 ho
 have hpl:p < s.heap.objs.size:=by obtain ⟨_,e,_⟩:=hl; exact A1 e
 have at_:∀ (i:Nat) (v:Value),its.toArray[i]? = some v->∃ t:Addr × List Int,ts[i]? = some t/\v=Value.ref t.1:=fun i v hv=>by
  rw [Bs] at hv
  have hi:i < ts.length:=by rw [ll]; exact (AU.mp hv).1
  have e1:(ts.map fun t=>V.ref t.1)[i]? = some (.ref ts[i].1):=by rw [AX,AO hi]; rfl
  obtain ⟨w',ew,rw'⟩:=r1.get e1
  rw [ew] at hv
  exact ⟨ts[i],AO hi,(Bb hv).symm.trans rw'⟩
 refine MnT.AA (wpAny_pyIter_list hl ?_)
 refine ⟨s.heap.objs.size,_,_,its.toArray.size,_,_,_,rfl,MnT.more (Gh (A:=X.A.in1) (I.ok.hd hc) s.heap.objs.size p (A5 hpl) its.toArray) ts (fun t ht hm => ?_),⟨⟨⟨_,A0 _ rfl,rfl,rfl⟩,hl.push _⟩,fun t ht=>(TIs t ht).at fun o e=>AN _ e⟩,fun b hb => ?_,by rw [AR]; omega,MnT.cmp ts ?_ at_,fun v h' tk pv kp => ?_⟩
 ·have:=hlt t ht
  rw [AV.mp hm] at this
  exact BB _ this
 ·show b < (s.heap.push _).objs.size
  rw [B4]
  rcases A2.mp hb with hb | hb
  ·rcases A6.mp hb with rfl | hb
   ·exact B2 _
   ·rw [AV.mp hb]; exact BJ hpl
  ·obtain ⟨t,ht,rfl⟩:=Bc.mp hb
   exact BJ (hlt t ht)
 ·show X.A.units + _ < cLine
  omega
 ·obtain ⟨t,et,rfl⟩:=at_ _ v pv
  obtain ⟨b1,b2⟩:=MnT.best (fun i=>(ts.getD i (0,[])).2) (its.toArray.size - 1)
  have kept:∀ b o,s.heap.get? b=some o->h'.get? b=some o:=fun b o e=>kp b o (fun hm=>by
   have:=A1 e
   rw [AV.mp hm] at this
   exact BB _ this) (AN _ e)
  refine ⟨.ref t.1,H,I.kept kept,rfl,q t (AY et) fun u hu' => ?_⟩
  obtain ⟨j,hj,eu⟩:=DM hu'
  have:=b2 j (by rw [AR]; omega)
  rw [AZ,AZ,et,AO hj,eu] at this
  exact this
theorem qX (hc:X.calm=true) (hu:X.A.units + 8 < cLine):bJ X (.builtin "min") (fun xs H Q=>∃ (a b:Addr) (ns ms:List Int),xs=[.ref a,.ref b]/\SqT X.K H a (ns.map V.int)/\SqT X.K H b (ms.map V.int)/\(HT.lexLt ms ns=true->Q (.ref b) H)/\(HT.lexLt ms ns=false->Q (.ref a) H)):=by
 intro pins s σ H xs us Q I r h
 obtain ⟨a,b,ns,ms,rfl,ha,hb,q1,q2⟩:=h
 obtain ⟨u,v,rfl,ru,rv⟩:=vals2 r
 cases (show u=Value.ref a from ru)
 cases (show v=Value.ref b from rv)
 have TIs:∀ t ∈ [(a,ns),(b,ms)],MnT.TI s.heap t:=fun t ht=>by
  rcases A6.mp ht with rfl | ht
  ·obtain ⟨i2,r2,p2,_⟩:=I.tuple ha
   exact ⟨_,p2,intsAre_of r2⟩
  ·rw [AV.mp ht]
   obtain ⟨i2,r2,p2,_⟩:=I.tuple hb
   exact ⟨_,p2,intsAre_of r2⟩
 have hlt:∀ t ∈ [(a,ns),(b,ms)],t.1 < s.heap.objs.size:=fun t ht=>by
  obtain ⟨_,⟨o,ho,_⟩,_⟩:=TIs t ht
  exact A1 ho
 have hT:(s.heap.push { cls := .type "tuple",data := .seq #[.ref a,.ref b] }).IsTuple s.heap.objs.size #[.ref a,.ref b]:=⟨_,A0 _ rfl,rfl,0,rfl⟩
 have hz:(s.heap.push { cls := .type "tuple",data := .seq #[.ref a,.ref b] }).objs.size=s.heap.objs.size + 1:=B4 ..
 have at_:∀ (i:Nat) (v:Value),(#[.ref a,.ref b]:Array Value)[i]? = some v->∃ t:Addr × List Int,[(a,ns),(b,ms)][i]? = some t/\v=Value.ref t.1:=fun i v hv=>by
  match i,hv with
  | 0,hv=>exact ⟨_,rfl,(Bb hv).symm⟩
  | 1,hv=>exact ⟨_,rfl,(Bb hv).symm⟩
  | i + 2,hv=>simp at hv
 refine MnT.call2 (wpAny_pyIter_tuple hT ?_)
 refine ⟨_,_,_,_,_,_,_,rfl,MnT.more (Fg (A:=X.A.in1) (I.ok.hd hc) _ s.heap.objs.size (by rw [hz]; exact A5 (B2 _)) #[.ref a,.ref b]) [(a,ns),(b,ms)] (fun t ht hm => ?_),⟨⟨⟨_,A0 _ rfl,rfl,rfl⟩,hT.push _⟩,fun t ht=>(TIs t ht).at fun o e=>AN _ (AN _ e)⟩,fun c hc' => ?_,Nat.zero_lt_two,MnT.cmp [(a,ns),(b,ms)] ?_ at_,fun v h' tk pv kp => ?_⟩
 ·have:=hlt t ht
  rw [AV.mp hm,hz] at this
  exact BB _ (Cw this)
 ·show c < ((s.heap.push _).push _).objs.size
  rw [B4,hz]
  rcases A2.mp hc' with hc' | hc'
  ·rcases A6.mp hc' with rfl | hc'
   ·rw [hz]; exact B2 _
   ·rw [AV.mp hc']; exact BJ (B2 _)
  ·obtain ⟨t,ht,rfl⟩:=Bc.mp hc'
   exact BJ (BJ (hlt t ht))
 ·show X.A.units + _ < cLine
  omega
 ·have kept:∀ b o,s.heap.get? b=some o->h'.get? b=some o:=fun b o e=>kp b o (fun hm=>by
   have:=A1 e
   rw [AV.mp hm,hz] at this
   exact BB _ (Cw this)) (AN _ (AN _ e))
  by_cases z:HT.lexLt ms ns=true
  ·have e:argBest (fun i j=>HT.lexLt ([(a,ns),(b,ms)].getD i (0,[])).2 ([(a,ns),(b,ms)].getD j (0,[])).2) 1=1:=by
    show (if HT.lexLt ms ns=true then 1 else 0)=1
    rw [if_pos z]
   rw [show (#[Value.ref a,Value.ref b]:Array Value).size - 1=1 from rfl,e] at pv
   have pv:=(Bb pv).symm
   exact ⟨.ref b,H,I.kept kept,pv,q1 z⟩
  ·have e:argBest (fun i j=>HT.lexLt ([(a,ns),(b,ms)].getD i (0,[])).2 ([(a,ns),(b,ms)].getD j (0,[])).2) 1=0:=by
    show (if HT.lexLt ms ns=true then 1 else 0)=0
    rw [if_neg z]
   rw [show (#[Value.ref a,Value.ref b]:Array Value).size - 1=1 from rfl,e] at pv
   have pv:=(Bb pv).symm
   exact ⟨.ref a,H,I.kept kept,pv,q2 (DB.mpr z)⟩
end
open PySem PySem.Spec PyProof.Rows
section
variable {X:Cx}
theorem qY (hc:X.calm=true):bJ X (.builtin "min") (fun xs H Q=>∃ (a:Addr) (ns:List Int),xs=[.ref a]/\SqT X.K H a (ns.map V.int)/\ns ≠ []/\∀ M:Int,M ∈ ns->(∀ b ∈ ns,M<=b)->Q (.int M) H):=by
 intro pins s σ H xs us Q I r h
 obtain ⟨a,ns,rfl,hS,hne,q⟩:=h
 obtain ⟨u,rfl,ru⟩:=vals1 r
 cases (show u=Value.ref a from ru)
 obtain ⟨its,r1,p1,_⟩:=I.tuple hS
 obtain ⟨ps,e2,e3⟩:=fO (intsAre_of r1)
 have ei:its.toArray=intItems ps.toArray:=by rw [e2]; simp [intItems]
 have hT:s.heap.IsTuple a (intItems ps.toArray):=by
  obtain ⟨o,ho,hc',n,hd⟩:=p1
  exact ⟨o,ho,hc',n,by rw [<- ei]; exact hd⟩
 have hz:ps.toArray.size=ns.length:=by rw [AR, <- e3,AM]
 have hp:0 < ns.length:=Cz.mpr hne
 have ht:ps.toArray.toList.map (·.1)=ns:=e3
 have hal:a < s.heap.objs.size:=by obtain ⟨o,ho,_⟩:=p1; exact A1 ho
 refine call_min_walk (wpAny_pyIter_tuple hT ?_)
 refine ⟨_,[_,a],[_],_,_,_,_,rfl,Fg (A:=X.A.in1) (I.ok.hd hc) _ a (A5 hal) (intItems ps.toArray),⟨⟨_,A0 _ rfl,rfl,rfl⟩,hT.push _⟩,fun c hc' => ?_,by simp only [intItems,BD]; omega,Hb (numAt ps.toArray) (fun _ _=>intItems_at),fun v h' tk hv hk => ?_⟩
 ·show c < (s.heap.push _).objs.size
  rw [B4]
  rcases A6.mp hc' with rfl | hc'
  ·exact B2 _
  ·rw [AV.mp hc']; exact BJ hal
 ·have k:∀ b o,s.heap.get? b=some o->h'.get? b=some o:=fun b o e=>hk b o (fun hm=>by
   have:=A1 e
   rw [AV.mp hm] at this
   exact BB _ this) (AN _ e)
  have hsz:(intItems ps.toArray).size=ns.length:=by simp only [intItems,BD]; exact hz
  rw [hsz] at hv
  obtain ⟨t,rfl⟩:=intItems_at hv
  obtain ⟨h1,h2⟩:=argBest_lt (numAt ps.toArray) (ns.length - 1)
  refine ⟨.int _,H,I.kept k,⟨_,rfl⟩,q _ ?_ fun b hb => ?_⟩
  ·rw [numAt_eq,ht]; exact zB (by omega)
  ·obtain ⟨j,hj,rfl⟩:=zC hb
   have:=h2 j (by omega)
   rw [numAt_eq,numAt_eq,ht] at this
   rw [numAt_eq,ht]
   exact this
end
open PySem PySem.Spec PyProof.Rows SeqAt
theorem lJ (l:Addr) (items:Array Value) (n:Nat) (dd:Option Addr) (sl:Array (Option Value)) (x:Value) (e:Value->Bool) (j:Nat) (hj:j < items.size) (hit:e items[j]=true) (hno:∀ m (hm:m < items.size),m < j->e items[m]=false) :
  Meets (Builtin.«tuple.index» ⟨[.ref l,x],[]⟩)
   (fun A R s=>s.heap.get? l=some { cls := .type "tuple",dict:=dd,data := .seq items n,slots:=sl }/\(∀ y,y ∈ items->EqAt A.in1 s y x (e y))/\R (.ok (.ret (.int j s.toks))) { s with toks:=s.toks + 1 }) :=
 .of_wp fun prog w A R s h=>by
  obtain ⟨hl,he,h⟩:=h
  unfold Builtin.«tuple.index»
  refine wpAny_bind (wpAny_of_eq (a:=(Value.ref l,[x])) rfl ?_)
  refine wpAny_bind (PyProof.Rows.tupleItemsOf_ (⟨_,hl,rfl,_,rfl⟩:IsTup s.heap l items) ?_)
  dsimp only
  refine wpAny_bind (wpAny_pure (wpAny_bind (wpAny_pure ?_)))
  rw [EO,FG]
  refine wpAny_bind (wpAny_forIn_list _ (fun rest b s'=>s'=s/\b=(none,())/\∃ i,rest=List.range' i (items.size - i)/\i<=j) _ ?_ ?_ _ _ ⟨rfl,rfl,0,?_,Br _⟩)
  ·rintro k rest b s' ⟨rfl,rfl,i,er,hi⟩
   rw [show items.size - i=(items.size - (i + 1)) + 1 by omega,Fj] at er
   injection er with e1 e2
   subst e1
   have hk:k < items.size:=by omega
   rw [Be hk]
   refine wpAny_bind (he _ (Gm hk) prog w _ _ ?_)
   by_cases z:k=j
   ·subst z
    rw [hit]
    refine wpAny_bind (wpAny_bind (wpAny_mkInt (wpAny_pure (wpAny_pure ?_))))
    exact wpAny_pure ⟨_,rfl,h⟩
   ·rw [hno k hk (by omega)]
    exact wpAny_pure ⟨rfl,rfl,k + 1,e2,by omega⟩
  ·rintro b s' ⟨rfl,rfl,i,er,hi⟩
   rw [show items.size - i=(items.size - (i + 1)) + 1 by omega,Fj] at er
   cases er
  ·simp [Std.Legacy.Range.size]
section
variable {X:Cx}
theorem uh:MtR X "tuple.index" (fun x vs H Q=>∃ (p:Addr) (ns:List Int) (k:Int),x = .ref p/\vs=[.int k]/\H p=some (.tup (ns.map V.int))/\k ∈ ns/\Q (.int (ns.idxOf k:Nat)) H):=by
 intro pins s σ H x vs v us Q I rx rv h
 obtain ⟨p,ns,k,rfl,rfl,hp,hk,q⟩:=h
 cases rx
 obtain ⟨u,rfl,⟨t,rfl⟩⟩:=vals1 rv
 obtain ⟨z,its,r,ob,e1,⟨c1,d1⟩,n,s1⟩:=(show bA X.prog X.w H s.heap p (.tup _) from I.hok p _ hp)
 have hi:IntsAre its ns:=intsAre_of r
 have hlen:=hi.length
 have hj:ns.idxOf k < ns.length:=DV.mpr hk
 obtain ⟨cls,dd,data,sl⟩:=ob
 simp only at c1 s1
 subst c1 s1
 refine call_meets E9 ⟨_,e1,rfl⟩ PySem.F.entry_tuple_index (PySem.F.args_tuple_index_2 _ _) (lJ p its.toArray n dd sl (.int k t) (isInt k) (ns.idxOf k) (by simpa [hlen] using hj) ?_ ?_) ⟨e1,fun y hy=>mC hi y hy,⟨.int _,H,I.tok _,⟨_,rfl⟩,q⟩⟩
 ·show isInt k its[ns.idxOf k]=true
  rw [isInt_at k hi _ (by omega) hj]; simpa using Gd hj
 ·intro j hjs hlt
  show isInt k its[j]=false
  rw [isInt_at k hi j (by simpa using hjs) (by omega)]
  simpa using vH (by omega) hlt
end
end L2
namespace L2.MnT
open PySem PyProof.Rows
section
variable {prog:Program} {w:World} {A:Around} {E:Value->Shared->Prop} {I:Addr} {fp wr:List Addr} {n:Nat} {P:Nat->Value->Prop} {St:Nat->Heap->Prop}
abbrev eQ (ts:List (Addr × List Int)):Nat->Nat->Bool:=fun i j=>decide ((ts.getD i (0,[])).2.length < (ts.getD j (0,[])).2.length)
theorem vM {s:Shared} {t:Addr × List Int} {Q:Value->Shared->Prop} (x:TI s.heap t) (hz:t.2.length < 2 ^ 63) (h:∀ u tk,Q (.int t.2.length u) { s with toks:=tk }):wpAny (model prog w) A (call (.builtin "len") [.ref t.1]) Q E s:=by
 obtain ⟨its,ht,hi⟩:=x
 have e:its.size=t.2.length:=by rw [<- hi.length,AW]
 refine len_tuple ht (by rw [e]; omega) ?_
 rw [e]
 exact h _ _
theorem AB {R:Result->Shared->Prop} {ts:List (Addr × List Int)} {kw:List (Str × Value)} (W:Walks prog w A.in1 I fp wr n P St) (hI:∀ k h,St k h->∀ t ∈ ts,TI h t) (hP:∀ i v,P i v->∃ t,ts[i]? = some t/\v = .ref t.1) (hz:∀ t ∈ ts,t.2.length < 2 ^ 63) {S:Addr} (nS:S ∉ fp):∀ (d j:Nat) (s:Shared) (t:Addr × List Int) (tk c:Nat),n=j + 1 + d->St (j + 1) s.heap->ts[argBest (eQ ts) j]? = some t->Bag S #[.ref t.1,.int t.2.length tk] c s.heap →
  (∀ t h' tk,ts[argBest (eQ ts) (n - 1)]? = some t->Kept wr S s.heap h'->R (.ok (.ret (.ref t.1))) { s with heap:=h',toks:=tk })->codeAny (model prog w) A (.builtin "min.loop" ⟨[.ref I,.builtin "len",.ref S],kw⟩) R s:=by
 have nw:S ∉ wr:=fun h=>nS (W.sub _ h)
 have nm:(toString "min" ++ toString ".loop" : String) = "min.loop" := by decide
 intro d
 induction d with
 | zero =>
  intro j s t tk c hn st et bg hR
  have e:j + 1=n:=by omega
  rw [e] at st
  refine codeAny_builtin Cs ?_
  rw [BA Bu _]
  show wpAny _ _ (seqItems? (.ref S) >>= _) _ _ s
  refine wpAny_bind (wpAny_seqItems bg rfl ?_)
  show wpAny _ _ (tryCatch (pyNext (.ref I)) _ >>= _) _ _ s
  refine wpAny_bind (wpAny_tryCatch (W.done s _ _ st fun h1 tk kp => ?_))
  show wpAny _ _ (updateSeq S (fun _ => #[]) >>= _) _ _ _
  refine wpAny_bind ?_
  refine wpAny_updateSeq (kp S _ nw bg) rfl (wpAny_bind (wpAny_letGo (wpAny_pure (hR t _ tk (by rw [<- e]; exact et) ?_))))
  exact fun b o nb ns eb=>(Bd _ _ (BN ns)).trans (kp b o nb eb)
 | succ d ih =>
  intro j s t tk c hn st et bg hR
  refine codeAny_builtin Cs ?_
  rw [BA Bu _]
  show wpAny _ _ (seqItems? (.ref S) >>= _) _ _ s
  refine wpAny_bind (wpAny_seqItems bg rfl ?_)
  show wpAny _ _ (tryCatch (pyNext (.ref I)) _ >>= _) _ _ s
  refine wpAny_bind (wpAny_tryCatch (W.item (j + 1) s _ _ (by omega) st fun v h1 tk1 pv st1 kp => ?_))
  obtain ⟨u,eu,rfl⟩:=hP _ _ pv
  have bg1:=kp S _ nw bg
  show wpAny _ _ (tryCatch (holding [Value.ref u.1] (call (.builtin "len") [.ref u.1])) _ >>= _) _ _ _
  refine wpAny_bind (wpAny_tryCatch (wpAny_holding (vM (hI _ _ st1 u (AY eu)) (hz u (AY eu)) fun tu tk2 => ?_)))
  show wpAny _ _ (tryCatch (holding [Value.ref u.1,.int u.2.length tu] (richCompare .Lt (.int u.2.length tu) (.int t.2.length tk) >>= _)) _ >>= _) _ _ _
  refine wpAny_bind (wpAny_tryCatch (wpAny_holding (wpAny_bind (richCompare_gives (op := .Lt) (typeIs_int _ _ tu) (typeIs_int _ _ tk) PySem.F.slot_int_lt PySem.F.entry_int_lt (PySem.F.args_int_lt_2 _ _) (gives_int_lt _ _ tu tk) (fun x=>nomatch x) ?_))))
  refine wpAny_bind (wpAny_holding (wpAny_truthy_bool ?_))
  refine wpAny_bind (wpAny_letGo (wpAny_pure ?_))
  have eb':eQ ts (j + 1) (argBest (eQ ts) j)=decide (u.2.length < t.2.length):=by
   show decide _=_
   rw [AZ,AZ,eu,et]; rfl
  by_cases hb:u.2.length < t.2.length
  ·have ea:argBest (eQ ts) (j + 1)=j + 1:=by
    show (if eQ ts (j + 1) (argBest (eQ ts) j)=true then _ else _)=_
    rw [eb',if_pos (decide_eq_true hb)]
   rw [show decide ((u.2.length:Int) < (t.2.length:Int))=true from decide_eq_true (by omega)]
   simp only [if_true]
   refine wpAny_bind ?_
   refine wpAny_updateSeq bg1 rfl (wpAny_bind (wpAny_letGo ?_))
   rw [nm]
   refine wpAny_pure ⟨plainId_quiet Bu _,ih (j + 1) _ u tu _ (by omega) (W.frame _ _ _ st1 fun b fb o eb => ?_) (by rw [ea]; exact eu) (Bv _ bg1 rfl) fun v2 h2 tk2 p2 k2=>hR v2 h2 tk2 p2 fun b o nb ns eb=>k2 b o nb ns ?_⟩
   ·exact (Bd _ _ (fun z:S=b=>nS (z ▸ fb))).trans eb
   ·exact (Bd _ _ (BN ns)).trans (kp b o nb eb)
  ·have ea:argBest (eQ ts) (j + 1)=argBest (eQ ts) j:=by
    show (if eQ ts (j + 1) (argBest (eQ ts) j)=true then _ else _)=_
    rw [eb',if_neg (by simpa using hb)]
   rw [show decide ((u.2.length:Int) < (t.2.length:Int))=false from decide_eq_false (by omega)]
   simp only [A8,if_false]
   refine wpAny_bind (wpAny_letGo ?_)
   rw [nm]
   exact wpAny_pure ⟨plainId_quiet Bu _,ih (j + 1) _ t tk c (by omega) st1 (by rw [ea]; exact et) bg1 fun v2 h2 tk2 p2 k2=>hR v2 h2 tk2 p2 fun b o nb ns eb=>k2 b o nb ns (kp b o nb eb)⟩
theorem zE {R:Result->Shared->Prop} {ts:List (Addr × List Int)} {kn:Str} {d:Value} (W:Walks prog w A.in1 I fp wr n P St) (hI:∀ k h,St k h->∀ t ∈ ts,TI h t) (hP:∀ i v,P i v->∃ t,ts[i]? = some t/\v = .ref t.1) (hz:∀ t ∈ ts,t.2.length < 2 ^ 63) {S:Addr} (nS:S ∉ fp) {s:Shared} {c:Nat} (st:St 0 s.heap) (bg:Bag S #[] c s.heap)
  (hR:∀ v h' tk,((0 < n/\∃ t,ts[argBest (eQ ts) (n - 1)]? = some t/\v = .ref t.1)\/(n=0/\v=d))->Kept wr S s.heap h'->R (.ok (.ret v)) { s with heap:=h',toks:=tk }):codeAny (model prog w) A (.builtin "min.loop" ⟨[.ref I,.builtin "len",.ref S],[(kn,d)]⟩) R s:=by
 have nw:S ∉ wr:=fun h=>nS (W.sub _ h)
 have nm:(toString "min" ++ toString ".loop" : String) = "min.loop" := by decide
 refine codeAny_builtin Cs ?_
 rw [BA Bu _]
 show wpAny _ _ (seqItems? (.ref S) >>= _) _ _ s
 refine wpAny_bind (wpAny_seqItems bg rfl ?_)
 show wpAny _ _ (tryCatch (pyNext (.ref I)) _ >>= _) _ _ s
 by_cases hn:n=0
 ·subst hn
  refine wpAny_bind (wpAny_tryCatch (W.done s _ _ st fun h1 tk kp => ?_))
  exact wpAny_bind (wpAny_rule (wpAny_pure (hR d h1 tk (.inr ⟨rfl,rfl⟩) fun b o nb _ eb=>kp b o nb eb)))
 refine wpAny_bind (wpAny_tryCatch (W.item 0 s _ _ (by omega) st fun v h1 tk pv st1 kp => ?_))
 obtain ⟨u,eu,rfl⟩:=hP _ _ pv
 have bg1:=kp S _ nw bg
 show wpAny _ _ (tryCatch (holding [Value.ref u.1] (call (.builtin "len") [.ref u.1])) _ >>= _) _ _ _
 refine wpAny_bind (wpAny_tryCatch (wpAny_holding (vM (hI _ _ st1 u (AY eu)) (hz u (AY eu)) fun tu tk2 => ?_)))
 show wpAny _ _ (updateSeq S (fun _ => #[.ref u.1,.int u.2.length tu]) >>= _) _ _ _
 refine wpAny_bind ?_
 refine wpAny_updateSeq bg1 rfl ?_
 rw [nm]
 refine wpAny_pure ⟨plainId_quiet Bu _,AB W hI hP hz nS (n - 1) 0 _ u tu _ (by omega) (W.frame _ _ _ st1 fun b fb o eb => ?_) eu (Bv _ bg1 rfl) fun t2 h2 tk2 p2 k2=>hR _ h2 tk2 (.inl ⟨by omega,t2,p2,rfl⟩) fun b o nb ns eb=>k2 b o nb ns ?_⟩
 ·exact (Bd _ _ (fun z:S=b=>nS (z ▸ fb))).trans eb
 ·exact (Bd _ _ (BN ns)).trans (kp b o nb eb)
theorem ui (a f d:Value):argsOk "min" ⟨[a],[("key",f),("default",d)]⟩:=by unfold argsOk; kernel_rfl
theorem AD {s:Shared} {l:Addr} {its:Array Value} {ts:List (Addr × List Int)} {d:Value} {Q:Value->Shared->Prop} (hh:A.handled=none) (hl:s.heap.IsList l its) (hT:∀ t ∈ ts,TI s.heap t) (hP:∀ (i:Nat) (v:Value),its[i]? = some v->∃ t,ts[i]? = some t/\v = .ref t.1) (hz:∀ t ∈ ts,t.2.length < 2 ^ 63)
  (h:∀ v h' tk,((0 < its.size/\∃ t,ts[argBest (eQ ts) (its.size - 1)]? = some t/\v = .ref t.1)\/(its.size=0/\v=d))->(∀ b o,s.heap.get? b=some o->h'.get? b=some o)->Q v { s with heap:=h',toks:=tk }) :
  wpAny (model prog w) A (call (.builtin "min") [.ref l] [("key",.builtin "len"),("default",d)]) Q E s:=by
 have nm:(toString "min" ++ toString ".loop" : String) = "min.loop" := by decide
 have hlt:∀ t ∈ ts,t.1 < s.heap.objs.size:=fun t ht=>by
  obtain ⟨_,⟨o,ho,_⟩,_⟩:=hT t ht
  exact A1 ho
 have hpl:l < s.heap.objs.size:=by obtain ⟨_,e,_⟩:=hl; exact A1 e
 refine wpAny_call (codeAny_call_builtin E7 E8 ?_)
 have hg:wpAny (model prog w) A.in1 (Builtin.«min» ⟨[.ref l],[("key",.builtin "len"),("default",d)]⟩) (fun fin s'=>match fin with
   | .done f=>(match (Except.ok f:Result) with | .ok (.ret v)=>Q v s' | .ok _=>False | .error e=>E e s')
   | .again c'=>c'.quiet=true/\codeAny (model prog w) A c' (fun r s'=>match r with | .ok (.ret v)=>Q v s' | .ok _=>False | .error e=>E e s') s') E s:=by
  show wpAny _ A.in1 (Builtin.Builtins.bindParams "min" ["key", "default"] 0 ⟨[],[("key",.builtin "len"),("default",d)]⟩ >>= _) _ _ s
  refine wpAny_bind (wpAny_of_eq (a:=[some (.builtin "len"),some d]) rfl ?_)
  refine wpAny_bind (wpAny_pure ?_)
  refine wpAny_bind (wpAny_pyIter_list hl ?_)
  refine wpAny_bind (wpAny_newObj_type ?_)
  have W:=more (Gh (prog:=prog) (w:=w) (A:=A.in1) hh s.heap.objs.size l (A5 hpl) its) ts (fun t ht hm=>by
   have:=hlt t ht
   rw [AV.mp hm] at this
   exact BB _ this)
  rw [nm]
  refine wpAny_pure ⟨plainId_quiet Bu _,zE W (fun k h x=>x.2) hP hz ?_ ⟨⟨⟨_,AN _ (A0 _ rfl),rfl,rfl⟩,(hl.push _).push _⟩,fun t ht=>(hT t ht).at fun o e=>AN _ (AN _ e)⟩ (A0 _ rfl) fun v h' tk hv kp => ?_⟩
  ·intro hm
   rw [B4] at hm
   rcases A2.mp hm with hm | hm
   ·rcases A6.mp hm with e | hm
    ·exact Nat.succ_ne_self _ e
    ·have:=AV.mp hm
     rw [<- this] at hpl
     exact BB _ (Cw hpl)
   ·obtain ⟨t,ht,e⟩:=Bc.mp hm
    have:=hlt t ht
    rw [e] at this
    exact BB _ (Cw this)
  ·refine h v h' tk hv fun b o e=>kp b o (fun hm => ?_) (fun z => ?_) (AN _ (AN _ e))
   ·have:=A1 e
    rw [AV.mp hm] at this
    exact BB _ this
   ·have:=A1 e
    rw [z,B4] at this
    exact BB _ (Cw this)
 simp only [checkBuiltinCall,Fl]
 cases hsig:Manifest.signature? "min" with
 | none=>exact wpAny_pure hg
 | some sig =>
  have ha':Bind.checkArgs "min" sig ⟨[.ref l],[("key",.builtin "len"),("default",d)]⟩=pure ():=by simpa only [argsOk,hsig] using ui (.ref l) (.builtin "len") d
  simp only [ha']
  exact wpAny_pure hg
end
end L2.MnT
namespace L2
open PySem PySem.Spec PyProof.Rows
theorem MnT.vN (g:Nat->Nat):∀ k,∀ j,j<=k->g (argBest (fun i j=>decide (g i < g j)) k)<=g j
 | 0,j,hj=>by rw [GU.mp hj]; exact AS _
 | k + 1,j,hj=>by
  have ih:=MnT.vN g k
  by_cases hb:g (k + 1) < g (argBest (fun i j=>decide (g i < g j)) k)
  ·have ea:argBest (fun i j=>decide (g i < g j)) (k + 1)=k + 1:=by simp only [argBest,decide_eq_true hb,if_true]
   rw [ea]
   by_cases e:j=k + 1
   ·rw [e]; exact AS _
   ·have:=ih j (by omega); omega
  ·have ea:argBest (fun i j=>decide (g i < g j)) (k + 1)=argBest (fun i j=>decide (g i < g j)) k:=by simp only [argBest,decide_eq_false hb]; rfl
   rw [ea]
   by_cases e:j=k + 1
   ·rw [e]; omega
   ·exact ih j (by omega)
section
variable {X:Cx}
end
open PySem PySem.Spec PyProof.Rows
section
variable {X:Cx}
theorem iw {K:PySem.W.Frag} (h:X.K=K:=by rfl):bJ X (.builtin "isinstance") (fun xs H Q=>∃ x T t b,xs=[x,.ty T]/\h8 K H x t/\PySem.W.kitOne K t (.type T)=some b/\Q (.bl b) H):=by subst h; exact dS
end
open PySem PySem.Spec PyProof.Rows
section
variable {X:Cx}
theorem kD (hh:X.A.handled=none):bJ X (.type "list") (fun xs H Q=>∃ (a:Addr) (n:Nat),xs=[.ref a]/\H a=some (.rng 0 n)/\n<=1000/\∀ l,H l=none->Q (.ref l) (upd H l (.lst ((List.range n).map fun i=>V.int (i:Nat))))):=by
 intro pins s σ H xs us Q I r h
 obtain ⟨a,n,rfl,ha,hn,q⟩:=h
 obtain ⟨u,rfl,ru⟩:=vals1 r
 cases (show u=Value.ref a from ru)
 obtain ⟨t,u,v,e⟩:=(show bA X.prog X.w H s.heap a (.rng 0 n) from I.hok a _ ha)
 have rs:Builtin.Range.rangeSize 0 (n:Int) 1=(n:Int):=by
  rw [rangeSize_one]
  split <;> omega
 have n24:n<=2 ^ 24:=by omega
 refine call_list_range hh e (small_one (by omega) (by omega) (by omega) (by omega)) rs n24 fun h' tk acc' c' k e' it => ?_
 have hv:∀ (i:Nat) (x:Value),acc'.toList[i]? = some x->∃ t,x=Value.int i t:=fun i x hx=>by
  rw [A3] at hx
  obtain ⟨t',e⟩:=it.2 i x hx
  exact ⟨t',by rw [e]; simp⟩
 have rv:=qN hv
 rw [AW,it.1] at rv
 exact ⟨.ref s.heap.objs.size,_,I.laid (o := .lst ((List.range n).map fun i=>V.int (i:Nat))) k (AS _) ⟨by rw [AM,Ci]; exact small hn,acc'.toList,c',rv,by simpa using e'⟩,rfl,q _ (I.hok.fresh (AS _))⟩
end
open PySem PySem.Spec PyProof.Rows
theorem MnT.yq (g:Nat->Nat):∀ k,∀ j,j < argBest (fun i j=>decide (g i < g j)) k->g (argBest (fun i j=>decide (g i < g j)) k) < g j
 | 0,j,hj=>absurd hj (Dd _)
 | k + 1,j,hj=>by
  by_cases hb:g (k + 1) < g (argBest (fun i j=>decide (g i < g j)) k)
  ·have ea:argBest (fun i j=>decide (g i < g j)) (k + 1)=k + 1:=by simp only [argBest,decide_eq_true hb,if_true]
   rw [ea] at hj ⊢
   have:=MnT.vN g k j (by omega)
   omega
  ·have ea:argBest (fun i j=>decide (g i < g j)) (k + 1)=argBest (fun i j=>decide (g i < g j)) k:=by simp only [argBest,decide_eq_false hb]; rfl
   rw [ea] at hj ⊢
   exact MnT.yq g k j hj
section
variable {X:Cx}
def vO (K:PySem.W.Frag) (te:TE):TE:=fun σ H Q=>te σ H fun x H1=>∃ (p:Addr) (ts:List (Addr × List Int)),[x]=[.ref p]/\SqL K H1 p (ts.map fun t => .ref t.1)/\(∀ t ∈ ts,SqT K H1 t.1 (t.2.map V.int))/\(ts=[]->Q .non H1)/\∀ (i:Nat) (t:Addr × List Int),ts[i]? = some t->(∀ u ∈ ts,t.2.length<=u.2.length)->(∀ (j:Nat) (u:Addr × List Int),j < i->ts[j]? = some u->t.2.length < u.2.length)->Q (.ref t.1) H1
theorem qZ {e:Expr} {te:TE} {j:Nat} {p p2 p3 pos kpos kpos2:Pos} (hc:X.calm=true) (hg:Gl X "min") (hm:X.mg "min" = none) (hg2:Gl X "len") (hm2:X.mg "len" = none) (hv:bootBuiltins "min" = some (.builtin "min")) (he:PE X e te)
    (hs:starEach (e :: []) X.env=(false,eval e X.env) :: starEach [] X.env:=by rfl)
    (ha:backTo pos (starEach (e :: []) X.env)=(false,eval e X.env) :: backTo pos (starEach [] X.env):=by rfl)
    (hplain:(backTo pos (starEach (e :: []) X.env)).any (·.1)=false:=by rfl) :
    PE X (.Call (.Name "min" p) [e] [⟨some "key",.Name "len" p2,kpos⟩,⟨some "default",.Constant .none j p3,kpos2⟩] pos) (vO X.K te):=by
  intro pins s σ H Q I h
  refine wpAny_Call_Name_kw (dk I hg hm hv ?_)
  refine PyProof.Rows.callWith_kw (thn ((aa he ag hs) pos pins s σ H (fun vs H1=>∃ (p:Addr) (ts:List (Addr × List Int)),vs=[.ref p]/\SqL X.K H1 p (ts.map fun t:Addr × List Int=>V.ref t.1)/\(∀ t ∈ ts,SqT X.K H1 t.1 (t.2.map V.int))/\(ts=[]->Q .non H1)/\∀ (i:Nat) (t:Addr × List Int),ts[i]? = some t->(∀ u ∈ ts,t.2.length<=u.2.length)->(∀ (j:Nat) (u:Addr × List Int),j < i->ts[j]? = some u->t.2.length < u.2.length)->Q (.ref t.1) H1) I h) fun us s1 ⟨vs,H1,I1,r1,q1⟩ => ?_) ha hplain rfl rfl
  show wpAny _ _ (evalAll ((do let v ← eval (.Name "len" p2) X.env; standAt pos; pure v) :: (do let v ← eval (.Constant .none j p3) X.env; standAt pos; pure v) :: [])) _ _ s1
  refine wpAny_evalAll_cons (wpAny_bind (dk I1 hg2 hm2 Ei (wpAny_bind (wpAny_standAt (wpAny_pure ?_)))))
  refine wpAny_evalAll_cons (wpAny_bind (Constant_none (wpAny_bind (wpAny_standAt (wpAny_pure (wpAny_evalAll_nil ?_))))))
  show wpAny _ _ (call (.builtin "min") us [("key",.builtin "len"),("default",.none)]) _ _ s1
  obtain ⟨a,ts,rfl,hq,ht,q0,q⟩:=q1
  obtain ⟨u,rfl,ru⟩:=vals1 r1
  cases (show u=Value.ref a from ru)
  obtain ⟨its,rv,p1,_⟩:=I1.list hq
  have ll:=rv.length
  rw [AM] at ll
  refine MnT.AD (ts:=ts) (I1.ok.hd hc) p1.isList (fun t h' => ?_) (fun i v hv => ?_) (fun t h' => ?_) fun v h' tk hv k => ?_
  · obtain ⟨i2,r2,p2,_⟩:=I1.tuple (ht t h')
    exact ⟨_,p2,intsAre_of r2⟩
  · rw [Bs] at hv
    have hi:i < ts.length:=by rw [ll]; exact (AU.mp hv).1
    have e1:(ts.map fun t=>V.ref t.1)[i]? = some (.ref ts[i].1):=by rw [AX,AO hi]; rfl
    obtain ⟨w',ew,rw'⟩:=rv.get e1
    rw [ew] at hv
    exact ⟨ts[i],AO hi,(Bb hv).symm.trans rw'⟩
  · obtain ⟨i2,r2,p2,z2⟩:=I1.tuple (ht t h')
    rw [AM,sizeLine_eq] at z2
    omega
  · rw [AR, <- ll] at hv
    rcases hv with ⟨hn,t,et,rfl⟩ | ⟨hn,rfl⟩
    · refine ⟨.ref t.1,H1,I1.kept k,rfl,q _ t et (fun u hu => ?_) fun j u hj eu => ?_⟩
      · obtain ⟨i,hi,eu⟩:=DM hu
        have:=MnT.vN (fun i=>(ts.getD i (0,[])).2.length) (ts.length - 1) i (by omega)
        rw [AZ,AZ,et,AO hi,eu] at this
        exact this
      · have:=MnT.yq (fun i=>(ts.getD i (0,[])).2.length) (ts.length - 1) j hj
        rw [AZ,AZ,et,eu] at this
        exact this
    · exact ⟨.non,H1,I1.kept k,rfl,q0 (Dh.mp hn)⟩
end
end L2
set_option maxHeartbeats 800000
namespace K10
open PySem L2
def top (i:Nat):Stmt:=PySem.Challenge.pw_ringfell_k10_peeled.main.body.getD i (.Pass ⟨0,0,0,0⟩)
abbrev kE:Stmt:=top 1
abbrev iz:Stmt:=top 2
abbrev dM:Stmt:=top 3
abbrev dO:Stmt:=top 4
abbrev dE:Stmt:=top 6
abbrev cM:Stmt:=top 7
abbrev cW:Stmt:=top 8
abbrev cN:Stmt:=top 9
abbrev cO:Stmt:=top 10
abbrev cX:Stmt:=top 11
abbrev bP:Stmt:=top 13
abbrev cY:Stmt:=top 14
abbrev kF:Stmt:=top 16
abbrev kI:Stmt:=top 17
abbrev pH:Stmt:=top 18
abbrev kJ:Stmt:=top 19
abbrev iA:Stmt:=top 20
abbrev gz:Stmt:=top 21
abbrev eR:Stmt:=top 22
abbrev iY:Stmt:=top 23
abbrev eU:Stmt:=top 24
abbrev di:Stmt:=top 25
abbrev eV:Stmt:=top 26
abbrev iZ:Stmt:=top 27
structure Blt (mg:Str->Option Value):Prop where
 b_all:mg "all" = none
 b_bool:mg "bool" = none
 b_divmod:mg "divmod" = none
 b_enumerate:mg "enumerate" = none
 b_int:mg "int" = none
 b_isinstance:mg "isinstance" = none
 b_len:mg "len" = none
 b_list:mg "list" = none
 b_max:mg "max" = none
 b_min:mg "min" = none
 b_range:mg "range" = none
 b_reversed:mg "reversed" = none
 b_set:mg "set" = none
 b_sorted:mg "sorted" = none
 b_sum:mg "sum" = none
 b_tuple:mg "tuple" = none
theorem rd:bootBuiltins "all" = some (.builtin "all"):=by decide +kernel
theorem xP:bootBuiltins "bool" = some (.type "bool"):=by decide +kernel
theorem aP:bootBuiltins "divmod" = some (.builtin "divmod"):=by decide +kernel
theorem nW:bootBuiltins "int" = some (.type "int"):=by decide +kernel
theorem cF:bootBuiltins "isinstance" = some (.builtin "isinstance"):=by decide +kernel
theorem fy:bootBuiltins "len" = some (.builtin "len"):=by decide +kernel
theorem gC:bootBuiltins "list" = some (.type "list"):=by decide +kernel
theorem i3:bootBuiltins "max" = some (.builtin "max"):=by decide +kernel
theorem d9:bootBuiltins "min" = some (.builtin "min"):=by decide +kernel
theorem pI:bootBuiltins "range" = some (.type "range"):=by decide +kernel
theorem fS:bootBuiltins "reversed" = some (.type "reversed"):=by decide +kernel
theorem vP:bootBuiltins "set" = some (.type "set"):=by decide +kernel
theorem cZ:bootBuiltins "sorted" = some (.builtin "sorted"):=by decide +kernel
theorem zF:bootBuiltins "sum" = some (.builtin "sum"):=by decide +kernel
theorem dP:bootBuiltins "tuple" = some (.type "tuple"):=by decide +kernel
theorem hu8 {A:Around} {k:Nat} (hr:du k A):A.units + 8 < cLine:=CV (Df (by decide:8<=64) _) hr.units
abbrev yr:Stmt:=kF
abbrev yt:Stmt:=kI
abbrev pJ:Stmt:=pH
abbrev vQ:Stmt:=kJ
abbrev vR:Stmt:=iA
abbrev vS:Stmt:=dM
abbrev AE:Stmt:=kE
abbrev vT:Stmt:=dO
abbrev sAt:Stmt:=iz
structure Wb (H:Hp) (r:Addr) (m:Int) (ts:List (Addr × List Int)):Prop where
 at':∃ t,H r=some (.tup [.int m,.ref t])/\H t=some (.tup (ts.map fun u => .ref u.1))
 tup:∀ u ∈ ts,H u.1=some (.tup (u.2.map V.int))
 pr:∀ u ∈ ts,∃ a b:Int,u.2=[a,b]/\0<=a/\a<=b/\b < m
 len:ts.length<=200
theorem Wb.tp {H H':Hp} {r:Addr} {m:Int} {ts:List (Addr × List Int)} (h:Wb H r m ts) (t:Tp H H'):Wb H' r m ts :=
 let ⟨p,e1,e2⟩:=h.at'
 ⟨⟨p,t _ _ e1,t _ _ e2⟩,fun u hu=>t _ _ (h.tup u hu),h.pr,h.len⟩
theorem Wb.same {H H':Hp} {r:Addr} {m:Int} {ts:List (Addr × List Int)} (h:Wb H r m ts) (s:aB H H'):Wb H' r m ts:=h.tp s.tp
theorem item {ts:List (Addr × List Int)} {i:Nat} {x:V} (e:(ts.map fun t:Addr × List Int=>V.ref t.1)[i]? = some x):∃ u,ts[i]? = some u/\x = .ref u.1:=by
 rw [AX] at e
 cases z:ts[i]? with
 | none=>rw [z] at e; cases e
 | some tt=>rw [z] at e; exact ⟨tt,rfl,(Bb e).symm⟩
theorem yu {ts:List (Addr × Int × Int)} {i:Nat} {x:V} (e:(ts.map fun t:Addr × Int × Int=>V.ref t.1)[i]? = some x):∃ u,ts[i]? = some u/\x = .ref u.1:=by
 rw [AX] at e
 cases z:ts[i]? with
 | none=>rw [z] at e; cases e
 | some tt=>rw [z] at e; exact ⟨tt,rfl,(Bb e).symm⟩
theorem take_snoc {α β : Type} {f : α -> β} {l:List α} {i:Nat} {x : α} (e:l[i]? = some x):(l.take (i + 1)).map f=(l.take i).map f ++ [f x]:=by
 rw [BU,e,A4]; rfl
structure bU (H:Hp) (l:Addr) (many:Int) (ts:List (Addr × Int × Int)):Prop where
 at':H l=some (.lst (ts.map fun t => .ref t.1))
 tup:∀ t ∈ ts,H t.1=some (.tup [.int t.2.1,.int t.2.2])
 bnd:∀ t ∈ ts,0<=t.2.1/\t.2.1 < many/\0<=t.2.2/\t.2.2 < many
theorem bU.same {H H':Hp} {l:Addr} {many:Int} {ts:List (Addr × Int × Int)} (h:bU H l many ts) (s:aB H H'):bU H' l many ts:=⟨s _ _ h.at',fun t m=>s _ _ (h.tup t m),h.bnd⟩
theorem bU.put {H H':Hp} {l:Addr} {many:Int} {ts us:List (Addr × Int × Int)} (h:bU H' l many ts) (tu:∀ t ∈ us,H' t.1=some (.tup [.int t.2.1,.int t.2.2])) (b:∀ t ∈ us,0<=t.2.1/\t.2.1 < many/\0<=t.2.2/\t.2.2 < many) :
  bU (upd H' l (.lst (us.map fun t => .ref t.1))) l many us:=by
 refine ⟨af,fun t ht => ?_,b⟩
 rw [aE (gK (tu t ht) h.at' (by intro z; cases z))]
 exact tu t ht
theorem aB.bG {H H':Hp} {l:Addr} (s:aB H H') (hl:H l=none) (o:HO):aB H (upd H' l o):=fun b u e=>by
 rw [aE (aD e hl)]; exact s _ _ e
def key (t:Addr × Int × Int):List Int:=nrm t.2.1 t.2.2
def pK (H:Hp) (ys:List V) (us:List (Addr × List Int)):Prop:=ys=us.map (fun u => .ref u.1)/\∀ u ∈ us,H u.1=some (.tup (u.2.map V.int))
theorem pK.add {H:Hp} {ys:List V} {us:List (Addr × List Int)} (h:pK H ys us) {t:Addr} (ht:H t=none) (ns:List Int):pK (upd H t (.tup (ns.map V.int))) (ys ++ [.ref t]) (us ++ [(t,ns)]):=by
 refine ⟨by rw [h.1,A4]; rfl,fun u hu => ?_⟩
 rcases A2.mp hu with z | z
 ·rw [aE (aD (h.2 u z) ht)]
  exact h.2 u z
 ·have e:u=(t,ns):=by simpa using z
  rw [e]
  exact af
theorem pK.same {H H':Hp} {ys:List V} {us:List (Addr × List Int)} (h:pK H ys us) (s:aB H H'):pK H' ys us:=⟨h.1,fun u hu=>s _ _ (h.2 u hu)⟩
theorem vU {a b m:Int} (h:0<=a/\a < m/\0<=b/\b < m):∃ x y:Int,nrm a b=[x,y]/\0<=x/\x<=y/\y < m:=by
 refine ⟨mnI a b,mxI a b,rfl,?_,?_,?_⟩ <;> (try unfold mnI) <;> (try unfold mxI) <;> (repeat' split) <;> omega
theorem dmN {n j:Int} (h:0<=n) (hj:0 < j):0<=n / j/\0<=n % j/\n % j < j:=⟨FC h (by omega),CO _ (by omega),CD _ hj⟩
@[irreducible] def kK (K:PySem.W.Frag):Sp:=fun vs H Q _=>∃ (a:Addr) (ns:List Int) (k:Int),vs=[.ref a,.int k]/\SqL K H a (ns.map V.int)/\0<=k/\∀ c:Int,Q (.int c) H
theorem gR {K:PySem.W.Frag} {vs:List V} {H:Hp} {Q:VK} {E:XK}:kK K vs H Q E ↔ ∃ (a:Addr) (ns:List Int) (k:Int),vs=[.ref a,.int k]/\SqL K H a (ns.map V.int)/\0<=k/\∀ c:Int,Q (.int c) H:=by
 delta kK
 exact CS
abbrev sg:Sp:=fun vs H Q _=>∃ c s:Int,vs=[.int c,.int s]/\0<=s/\s<=1000/\∀ n:Int,0<=n->Q (.int n) H
@[irreducible] def kM:Sp:=sg
theorem gS {vs:List V} {H:Hp} {Q:VK} {E:XK}:kM vs H Q E ↔ sg vs H Q E:=by
 delta kM
 exact CS
section
variable {P:Program} {w:World} {K:PySem.W.Frag} {mg:Str->Option Value} {base:Heap} {f:Addr} {fd:FuncData}
theorem zG:aW ["script", "k"] ["script", "k"] (az yr):=⟨rfl,rfl,rfl,by decide +kernel,rfl,by decide +kernel,by decide +kernel⟩
theorem zI (F:Fun K "_law_cell" "_law_cell" yr f fd) (B:Blt mg):cB P w K mg base CX0 1 f fd ["script", "k"] (kK K):=by
 refine F.ok zG (fun vs H Q E h => ?_) (fun cdv A outer s H vs Q E hr h => ?_)
 ·obtain ⟨c,k,k',rfl,_⟩:=gR.mp h
  rfl
 obtain ⟨a,ns,k,rfl,hS,k0,q⟩:=gR.mp h
 refine ⟨_,ah (bL (aO oD (pv 1) (aq ba rfl B.b_len Ei (aa (pv 0) ag)) (aR _)) (au (aS (aN cH (pv 0) (pv 1) (fun _ _=>rfl)))) aV)
  (au (aS ai)),?_⟩
 refine ⟨_,rfl,_,rfl,a,_,rfl,.inl hS,_,_,rfl,rfl,_,rfl,ia (fun c => ?_) fun _=>q 0⟩
 have c':k < ((ns.map V.int).length:Int):=of_decide_eq_true c
 rw [AM] at c'
 obtain ⟨n,rfl⟩:∃ n:Nat,k=n:=⟨k.toNat,by omega⟩
 exact ⟨_,rfl,_,rfl,a,_,_,.int (ns[n]'(by omega)),rfl,rfl,hS,cG (by rw [AX,AO (by omega)]; rfl),q _⟩
theorem gW:aW ["cell", "salt", "one", "number", "j"] ["cell", "salt"] (az yt):=⟨rfl,rfl,rfl,by decide +kernel,rfl,by decide +kernel,by decide +kernel⟩
theorem zJ (F:Fun K "_law_deal" "_law_deal" yt f fd) (B:Blt mg):cB P w K mg base CX0 1 f fd ["cell", "salt"] kM:=by
 refine F.ok gW (fun vs H Q E h => ?_) (fun cdv A outer s H vs Q E hr h => ?_)
 ·obtain ⟨c,k,rfl,_⟩:=gS.mp h
  rfl
 obtain ⟨c,salt,rfl,s0,s1,q⟩:=gS.mp h
 refine ⟨_,ah (bL (aO uK (pv 0) (aL uI ai ai) (aR _)) (au (aS (aL dr (pv 0) (aL uI ai ai)))) aV)
  (ah (aQ (i:=2) gW.nd rfl (Or.inl rfl) (aL ff (pv 0) ai))
  (ah (aQ (i:=3) gW.nd rfl (Or.inl rfl) ai)
  (ah (bV Bw rfl (bI rfl B.b_range (aa ai ag)) (ak (i:=4) gW.nd rfl (Or.inl rfl))
   (ah (aQ (i:=2) gW.nd rfl (Or.inl rfl) (aL ff (aL fe (aL cA (aL cA (aL cA (pv 2) (aL fe (aL fe ai (pv 4)) (pv 4))) (aL fe ai (pv 1))) ai) ai) ai))
   (ah (aQ (i:=2) gW.nd rfl (Or.inl rfl) (aL ff (aL fe (pv 2) (pv 2)) ai))
   (au (aQ (i:=3) gW.nd rfl (Or.inl rfl) (aL cA (aL fe (pv 3) ai) (aL rB (aL ff (aL fe (pv 2) ai) ai) ai)))))))
  (au (aS (pv 3)))))),?_⟩
 refine ⟨_,rfl,_,_,rfl,rfl,⟨by decide,by decide,by decide⟩,_,_,rfl,rfl,_,rfl,?_⟩
 refine ia (fun c1 => ?_) (fun c1 => ?_)
 ·have c':(10:Int) ^ (18:Int).toNat<=c:=of_decide_eq_true c1
  exact ⟨_,rfl,_,_,rfl,rfl,⟨by decide,by decide,by decide⟩,_,_,rfl,rfl,q _ (by omega)⟩
 ·refine ⟨_,rfl,_,_,rfl,rfl,(by show (0:Int) < _; decide),_,rfl,by decide,by decide,bS (fun k σ H'=>(∃ (o g:Int) (lv:Option V),0<=g/\σ=[some (.int c),some (.int salt),some (.int o),some (.int g),lv])/\H'=H) ⟨⟨_,0,none,by decide,rfl⟩,rfl⟩ ?_ ?_⟩
  ·rintro k σ H' hk ⟨⟨o,g,lv,hg,rfl⟩,rfl⟩
   have hk':k < 24:=hk
   refine ⟨_,rfl,_,rfl,_,_,rfl,rfl,.inl ⟨by decide,by decide⟩,_,rfl,_,_,rfl,rfl,.inl ⟨by omega,by omega⟩,_,_,rfl,rfl,_,rfl,_,_,rfl,rfl,.inl ⟨by decide,by decide⟩,_,_,rfl,rfl,_,_,rfl,rfl,_,_,rfl,rfl,.inr ⟨by decide,by decide⟩,_,_,rfl,rfl,(by show (0:Int) < _; decide),?_⟩
   generalize ((o + 15 * (0 + (k:Int)) * (0 + (k:Int)) + 31 * salt + 11) * 48271)=z1
   have b1:=CO z1 (b:=2147483647) (by decide)
   have b2:=CD z1 (b:=2147483647) (by decide)
   refine ⟨_,rfl,_,rfl,_,_,rfl,rfl,.inl ⟨by omega,by omega⟩,_,_,rfl,rfl,(by show (0:Int) < _; decide),?_⟩
   refine ⟨_,rfl,_,_,rfl,rfl,.inr ⟨by decide,by decide⟩,_,rfl,_,_,rfl,rfl,.inr ⟨by decide,by decide⟩,_,_,rfl,rfl,(by show (0:Int) < _; decide),_,_,rfl,rfl,⟨by decide,by decide⟩,_,_,rfl,rfl,⟨_,_,_,?_,rfl⟩,rfl⟩
   generalize (z1 % 2147483647 * (z1 % 2147483647) % 2147483629 * 69621)=z2
   have a1:0<=g * 998244353:=Int.mul_nonneg hg (by decide)
   have a2:0<=z2 % 2147483587 / 7:=FC (CO z2 (by decide)) (by decide)
   omega
  ·rintro σ H' ⟨⟨o,g,lv,hg,rfl⟩,rfl⟩
   exact ⟨_,rfl,q g hg⟩
end
open PySem L2
theorem eX {X:Cx} {body:List Stmt} {D0:Ends} {σ0:St} {H0:Hp} (sts:List Stmt) (M:St->Hp->Prop) (h:∃ t2,PSs X sts t2/\∀ σ H,M σ H->t2 D0 σ H)
  (g:∀ t2,PSs X sts t2->(∀ σ H,M σ H->t2 D0 σ H)->∃ t,PSs X body t/\t D0 σ0 H0):∃ t,PSs X body t/\t D0 σ0 H0:=by
 obtain ⟨t2,p2,m2⟩:=h
 exact g t2 p2 m2
def T3 (H:Hp) (ys:List V) (us:List (Addr × Int × Int)):Prop:=ys=us.map (fun u => .ref u.1)/\∀ u ∈ us,H u.1=some (.tup [.int u.2.1,.int u.2.2])
theorem T3.add {H:Hp} {ys:List V} {us:List (Addr × Int × Int)} (h:T3 H ys us) {t:Addr} (ht:H t=none) (a b:Int):T3 (upd H t (.tup [.int a,.int b])) (ys ++ [.ref t]) (us ++ [(t,a,b)]):=by
 refine ⟨by rw [h.1,A4]; rfl,fun u hu => ?_⟩
 rcases A2.mp hu with z | z
 ·rw [aE (aD (h.2 u z) ht)]
  exact h.2 u z
 ·have e:u=(t,a,b):=by simpa using z
  rw [e]
  exact af
theorem T3.zK {H:Hp} {ys:List V} {us:List (Addr × Int × Int)} {m:Int} (h:T3 H ys us) {l:Addr} (hl:H l=none) (b:∀ t ∈ us,0<=t.2.1/\t.2.1 < m/\0<=t.2.2/\t.2.2 < m):bU (upd H l (.lst ys)) l m us:=by
 refine ⟨by rw [af,h.1],fun u hu => ?_,b⟩
 rw [aE (aD (h.2 u hu) hl)]
 exact h.2 u hu
theorem eY {m a b:Int} {t:Addr} {us:List (Addr × Int × Int)} (h:∀ t ∈ us,0<=t.2.1/\t.2.1 < m/\0<=t.2.2/\t.2.2 < m) (hab:0<=a/\a < m/\0<=b/\b < m):∀ x ∈ us ++ [(t,a,b)],0<=x.2.1/\x.2.1 < m/\0<=x.2.2/\x.2.2 < m:=fun x hx=>by
 rcases A2.mp hx with z | z
 ·exact h x z
 ·rw [AV] at z; subst z; exact hab
theorem bU.push {H0 H:Hp} {l:Addr} {m:Int} {ts:List (Addr × Int × Int)} (h:bU H l m ts) {t:Addr} (ht:H t=none) {a b:Int} (hab:0<=a/\a < m/\0<=b/\b < m) :
  bU (upd (upd H t (.tup [.int a,.int b])) l (.lst ((ts.map fun t => .ref t.1) ++ [.ref t]))) l m (ts ++ [(t,a,b)]):=by
 have nt:∀ {c:Addr} {xs:List V},H c=some (.tup xs)->c ≠ l:=fun e=>gK e h.at' (by intro z; cases z)
 have ntl:t ≠ l:=BN (aD h.at' ht)
 refine ⟨by rw [af,A4]; rfl,fun u hu => ?_,eY h.bnd hab⟩
 rcases A2.mp hu with z | z
 ·rw [aE (nt (h.tup u z)),aE (aD (h.tup u z) ht)]; exact h.tup u z
 ·rw [AV] at z; subst z
  rw [aE ntl]; exact af
theorem nX {α : Type} (x : α):∀ k:Nat,(List.replicate k [x]).flatten=List.replicate k x
 | 0=>rfl
 | k + 1=>by rw [Ct,Cu,nX x k,Ct]; rfl
abbrev si:Sp:=fun vs H Q _=>∃ n most:Int,vs=[.int n,.int most]/\0<=n/\0<=most/\most<=30/\∀ (p b:Addr) (n' m:Int) (ts:List (Addr × List Int)) (H':Hp),aB H H'->H' p=some (.tup [.ref b,.int n'])->Wb H' b m ts->0<=m->m<=most->0<=n'->Q (.ref p) H'
@[irreducible] def kN:Sp:=si
theorem gX {vs:List V} {H:Hp} {Q:VK} {E:XK}:kN vs H Q E ↔ si vs H Q E:=by
 delta kN
 exact CS
def MT (H:Hp) (most:Int) (k:Nat) (σ:St) (H':Hp):Prop:=∃ (n m wy c t:Int) (l:Addr) (ts:List (Addr × Int × Int)) (c7 c8 c9 c10 c11:Option V),
 σ=[some (.int n),some (.int most),some (.int m),some (.int wy),some (.int c),some (.int t),some (.ref l),c7,c8,c9,c10,c11]/\0<=n/\0<=m/\m<=most/\0<=c/\c<=60/\aB H H'/\H l=none/\bU H' l m ts/\ts.length<=k
section
variable {P:Program} {w:World} {K:PySem.W.Frag} {mg:Str->Option Value} {base:Heap} {f:Addr} {fd:FuncData}
theorem ndPM:(["place", "many"]:List Str).Nodup:=by decide +kernel
theorem yv:(["one", "other", "many"]:List Str).Nodup:=by decide +kernel
theorem ndP:(["pair"]:List Str).Nodup:=by decide +kernel
theorem bH:aW ["number", "most", "many", "way", "count", "turn", "ties", "place", "other", "k", "one", "again"] ["number", "most"] (az pJ):=⟨rfl,rfl,rfl,by decide +kernel,rfl,by decide +kernel,by decide +kernel⟩
theorem zL (F:Fun K "_law_web" "_law_web" pJ f fd) (B:Blt mg):cB P w K mg base CX0 1 f fd ["number", "most"] kN:=by
 refine F.ok bH (fun vs H Q E h => ?_) (fun cdv A outer s H vs Q E hr h => ?_)
 ·obtain ⟨c,k,rfl,_⟩:=gX.mp h
  rfl
 obtain ⟨n,most,rfl,n0,h0,h1,q⟩:=gX.mp h
 refine eX ((aH pJ).drop 9) (MT H most 200) ?hT fun tT pT mT => ?gT
 case hT =>
  refine ⟨_,au (aS (bD (aa (bD (aa (pv 2) (aa (aI bB rfl B.b_tuple DN (aa (aq fq rfl B.b_sorted cZ (aa
   (cw ["pair"] [none] rfl (cj (pv 6)) rfl (fun _ _ _ _ _=>ak (i:=0) ndP rfl (Or.inl rfl)) (fun _ _ _ _ _=>cC)
    (fun _ _ _ _ _=>bD (aa (aq (mL (K:=K) rfl) rfl B.b_min d9 (aa (pv 0) ag)) (aa (aq (mN (K:=K) rfl) rfl B.b_max i3 (aa (pv 0) ag)) ag)))) ag)) ag)) ag))) (aa (pv 0) ag)))),?_⟩
  rintro σ H8 ⟨n,m,wy,c,t,l,ts,c7,c8,c9,c10,c11,rfl,n0,m0,m1,_,_,s8,hl,tA,lt⟩
  refine ⟨_,rfl,_,rfl,l,rfl,⟨_,SqL.of tA.at'⟩,cq (xs:=ts.map fun t => .ref t.1) (fun i ys H'=>aB H8 H'/\∃ us,pK H' ys us/\us.map (·.2)=(ts.take i).map key) ⟨aB.refl _,[],⟨rfl,fun u hu=>by cases hu⟩,rfl⟩ (by rw [AM]; exact small (by omega)) (fun i ys H'' _ z=>SqL.of (z.1 _ _ tA.at')) ?_ ?_⟩
  ·rintro i x ys H' hx hy ⟨s',us,tu,eu⟩ R1 R0 r1 r0
   obtain ⟨tt,ht,rfl⟩:=yu hx
   have e2:=s' _ _ (tA.tup tt (AY ht))
   refine bX ⟨_,rfl,_,_,_,rfl,SqT.of e2,_,rfl,_,_,_,rfl,SqT.of e2,(by show 2<=sizeLine; decide),fun tn htn=>r1 _ _ ⟨s'.trans (ae htn _),us ++ [(tn,key tt)],tu.add htn _,?_⟩⟩
   rw [A4,eu,BU,ht,A4]
   rfl
  rintro ys H9 hy ⟨s9,us,tu,eu⟩ L hL
  have eu':us.map (·.2)=ts.map key:=by rw [eu,AM,A7 (AS _)]
  have s10:=s9.trans (ae hL (.lst ys))
  have tu10:=tu.same (ae hL (.lst ys))
  have ey:=tu.1
  have keys:∀ u ∈ us,∃ x y:Int,u.2=[x,y]/\0<=x/\x<=y/\y < m:=fun u hu=>by
   have:u.2 ∈ ts.map key:=by rw [<- eu']; exact BK hu
   obtain ⟨t,ht,e⟩:=Bc.mp this
   rw [<- e]
   exact vU (tA.bnd t ht)
  have nn:∀ u ∈ us,u.2 ≠ []:=fun u hu z=>by
   obtain ⟨a,b,e,_⟩:=keys u hu
   rw [z] at e
   cases e
  refine ⟨L,us,rfl,.inl (SqL.of (by rw [af,ey])),fun u hu=>⟨SqT.of (tu10.2 u hu),nn u hu⟩,fun L2 out hL2 po ps => ?_⟩
  have s11:=s10.trans (ae hL2 (.lst (out.map fun t => .ref t.1)))
  have tu11:=tu10.same (ae hL2 (.lst (out.map fun t => .ref t.1)))
  refine ⟨L2,_,rfl,.inl ⟨SqL.of af,fun l3 hl3 => ?_⟩⟩
  have s12:=s11.trans (ae hl3 (.tup (out.map fun t => .ref t.1)))
  have tu12:=tu11.same (ae hl3 (.tup (out.map fun t => .ref t.1)))
  refine ⟨(by show 2<=sizeLine; decide),fun b hb=>⟨_,rfl,(by show 2<=sizeLine; decide),fun p hp => ?_⟩⟩
  have sb:=ae hb (.tup [.int m,.ref l3])
  have sp:=ae hp (.tup [.ref b,.int n])
  have lu:us.length=ts.length:=by have:=congrArg List.length eu'; rwa [AM,AM] at this
  refine q p b n m out _ (s8.trans (s12.trans (sb.trans sp))) af ⟨⟨l3,sp _ _ af,sp _ _ (sb _ _ af)⟩,fun u hu=>sp _ _ (sb _ _ (tu12.2 u (po.mem_iff.mp hu))),fun u hu=>keys u (po.mem_iff.mp hu),?_⟩ m0 m1 n0
  rw [po.length_eq]; omega
 refine eX ((aH pJ).drop 7) (MT H most 30) ?hU fun tU pU mU => ?gU
 case hU =>
  refine ⟨_,ah (bV Bw rfl (bI rfl B.b_range (aa (aL fe (pv 4) (aI iO rfl B.b_int nW (aa (h7 Ad (pv 2) ai (aR _)) ag))) ag)) (ak (i:=9) bH.nd rfl (Or.inl rfl))
    (ah (bC (aq aF rfl B.b_divmod aP (aa (pv 0) (aa (pv 2) ag))) (bo rfl (aA (ak (i:=0) bH.nd rfl (Or.inl rfl)) (aA (ak (i:=10) bH.nd rfl (Or.inl rfl)) aT))))
    (ah (bC (aq aF rfl B.b_divmod aP (aa (pv 0) (aa (pv 2) ag))) (bo rfl (aA (ak (i:=0) bH.nd rfl (Or.inl rfl)) (aA (ak (i:=8) bH.nd rfl (Or.inl rfl)) aT))))
    (ah (bC (aq aF rfl B.b_divmod aP (aa (pv 0) (aa ai ag))) (bo rfl (aA (ak (i:=0) bH.nd rfl (Or.inl rfl)) (aA (ak (i:=11) bH.nd rfl (Or.inl rfl)) aT))))
    (au (bR (dy Bm DW DX iP (pv 6) (aa (aL uP (cQ (aa (bD (aa (pv 10) (aa (pv 8) ag))) ag)) (aL cA ai (aI iO rfl B.b_int nW (aa (h7 dG (pv 11) ai (aR _)) ag)))) ag))))))))
   (ah (bL (aO dG (pv 5) ai (aR _)) (au (dH (i:=6) ["one", "other", "many"] [none,none,some 2] rfl bH.nd rfl rfl (cj (pv 6)) rfl (fun _ _ _ _ _=>oR (K:=K) (i:=0) (j:=1) yv rfl rfl (Or.inl rfl) (Or.inl rfl)) (fun _ _ _ _ _=>cC)
     (fun _ _ _ _ _=>bD (aa (aL dr (aL dr (pv 2) ai) (pv 0)) (aa (aL dr (aL dr (pv 2) ai) (pv 1)) ag))))) aV) pT),?_⟩
  rintro σ H2 ⟨n,m,wy,c,t,l,ts,c7,c8,c9,c10,c11,rfl,n0,m0,m1,cc0,cc1,s2,hl,tA,lt⟩
  have hN:∃ N:Int,c * (if decide (0 < m)=true then 1 else 0)=N/\0<=N/\N<=c/\(0 < N->0 < m):=by
   by_cases h:0 < m
   ·exact ⟨c,by rw [if_pos (decide_eq_true h)]; omega,cc0,by omega,fun _=>h⟩
   ·exact ⟨0,by rw [if_neg (by simpa using h)]; omega,by omega,by omega,fun z=>by omega⟩
  obtain ⟨N,eN,N0,N1,Nm⟩:=hN
  refine ⟨_,rfl,_,rfl,_,_,rfl,rfl,.inr ⟨_,rfl,_,_,rfl,rfl,.inl ⟨by omega,by omega⟩,N,by rw [<- eN],by omega,by omega,?_⟩⟩
  refine bS (fun i σ H'=>(∃ (n:Int) (c8 c9 c10 c11:Option V),0<=n/\σ=[some (.int n),some (.int most),some (.int m),some (.int wy),some (.int c),some (.int t),some (.ref l),c7,c8,c9,c10,c11])/\aB H H'/\∃ ts,bU H' l m ts/\ts.length<=30 + 2 * i) ⟨⟨_,_,_,_,_,n0,rfl⟩,s2,ts,tA,by omega⟩ ?_ ?_
  ·rintro i σ H3 hi ⟨⟨n,c8,c9,c10,c11,n0,rfl⟩,s3,ts,tA,lt⟩
   have hi':(i:Int) < N:=by omega
   have mp:0 < m:=Nm (by omega)
   obtain ⟨q0,x0,x1⟩:=dmN n0 mp
   refine ⟨_,rfl,_,rfl,n,m,rfl,⟨mp,by omega⟩,fun p hp=>⟨p,_,rfl,SqT.of af,rfl,_,_,rfl,_,_,rfl,rfl,?_⟩⟩
   have tA1:=tA.same (ae hp (.tup [.int (n / m),.int (n % m)]))
   have s4:=s3.trans (ae hp (.tup [.int (n / m),.int (n % m)]))
   generalize upd H3 p (.tup [.int (n / m),.int (n % m)])=H4 at tA1 s4
   generalize n / m=n1 at q0
   generalize n % m=x at x0 x1
   obtain ⟨q1,y0,y1⟩:=dmN q0 mp
   refine ⟨_,rfl,_,rfl,n1,m,rfl,⟨mp,by omega⟩,fun p hp=>⟨p,_,rfl,SqT.of af,rfl,_,_,rfl,_,_,rfl,rfl,?_⟩⟩
   have tA2:=tA1.same (ae hp (.tup [.int (n1 / m),.int (n1 % m)]))
   have s5:=s4.trans (ae hp (.tup [.int (n1 / m),.int (n1 % m)]))
   generalize upd H4 p (.tup [.int (n1 / m),.int (n1 % m)])=H5 at tA2 s5
   generalize n1 / m=n2 at q1
   generalize n1 % m=y at y0 y1
   obtain ⟨q2,z0,z1⟩:=dmN (j:=8) q1 (by decide)
   refine ⟨_,rfl,n2,8,rfl,⟨by decide,by decide⟩,fun p hp=>⟨p,_,rfl,SqT.of af,rfl,_,_,rfl,_,_,rfl,rfl,?_⟩⟩
   have tA3:=tA2.same (ae hp (.tup [.int (n2 / 8),.int (n2 % 8)]))
   have s6:=s5.trans (ae hp (.tup [.int (n2 / 8),.int (n2 % 8)]))
   generalize upd H5 p (.tup [.int (n2 / 8),.int (n2 % 8)])=H6 at tA3 s6
   generalize n2 / 8=n3 at q2
   generalize n2 % 8=z at z0 z1
   refine ⟨_,rfl,.inl ⟨rfl,_,SqL.of tA3.at'⟩,_,rfl,_,rfl,(by show 2<=sizeLine; decide),fun t1 ht1=>⟨(by show 1<=sizeLine; decide),fun b1 hb1 => ?_⟩⟩
   have hk:∃ k:Nat,(1 + (if decide (V.int z=V.int 0)=true then 1 else 0):Int)=(k:Int)/\1<=k/\k<=2:=by
    by_cases h:V.int z=V.int 0
    ·exact ⟨2,by rw [if_pos (decide_eq_true h)]; rfl,by omega,by omega⟩
    ·exact ⟨1,by rw [if_neg (by simpa using h)]; rfl,by omega,by omega⟩
   obtain ⟨k,ek,k1,k2⟩:=hk
   refine ⟨_,rfl,rfl,.inr ⟨_,rfl,_,_,rfl,rfl,b1,(k:Int),[.ref t1],rfl,by rw [<- ek],af,by omega,by omega,?_,fun b2 hb2 => ?_⟩⟩
   ·show 1 * (k:Int).toNat<=sizeLine
    exact small (by omega)
   have g1:=ae ht1 (.tup [.int x,.int y])
   have g2:=ae hb1 (.lst [.ref t1])
   have g3:=ae hb2 (.lst (List.replicate (k:Int).toNat [V.ref t1]).flatten)
   have tA6:=((tA3.same g1).same g2).same g3
   have et:upd (upd (upd H6 t1 (.tup [.int x,.int y])) b1 (.lst [.ref t1])) b2 (.lst (List.replicate (k:Int).toNat [V.ref t1]).flatten) t1=some (.tup [.int x,.int y]):=g3 _ _ (g2 _ _ af)
   have eb2:upd (upd (upd H6 t1 (.tup [.int x,.int y])) b1 (.lst [.ref t1])) b2 (.lst (List.replicate (k:Int).toNat [V.ref t1]).flatten) b2=some (.lst (((List.replicate k (t1,x,y))).map fun u=>V.ref u.1)):=by
    rw [af,BO]
    rw [nX,List.map_replicate]
   have s9:=s6.trans (g1.trans (g2.trans g3))
   generalize upd (upd (upd H6 t1 (.tup [.int x,.int y])) b1 (.lst [.ref t1])) b2 (.lst (List.replicate (k:Int).toNat [V.ref t1]).flatten)=H9 at tA6 et eb2 s9
   refine ⟨l,b2,_,_,rfl,rfl,tA6.at',eb2,?_,⟨_,_,_,_,_,q2,rfl⟩,aB.bG s9 hl _,ts ++ List.replicate k (t1,x,y),?_,?_⟩
   ·rw [AM,AM,CU]; exact small (by omega)
   ·rw [<- A4]
    refine tA6.put (H:=H) (fun u hu => ?_) fun u hu => ?_
    ·rcases A2.mp hu with h | h
     ·exact tA6.tup u h
     ·rw [Fb h]; exact et
    ·rcases A2.mp hu with h | h
     ·exact tA6.bnd u h
     ·rw [Fb h]; exact ⟨x0,x1,y0,y1⟩
   ·rw [AQ,CU]; omega
  ·rintro σ H3 ⟨⟨n,c8,c9,c10,c11,n0,rfl⟩,s3,ts,tA,lt⟩
   have lt':ts.length<=150:=by omega
   refine ⟨_,rfl,rfl,_,rfl,ia (fun _ => ?_) fun _=>mT _ _ ⟨n,m,wy,c,t,l,ts,_,_,_,_,_,rfl,n0,m0,m1,cc0,cc1,s3,hl,tA,by omega⟩⟩
   have em:(ts.map fun t=>(t.1,V.int t.2.1,V.int t.2.2)).map (fun t=>V.ref t.1)=ts.map fun t=>V.ref t.1:=by rw [CZ]; rfl
   refine ⟨_,rfl,l,rfl,⟨_,SqL.of tA.at'⟩,j3 (ts:=ts.map fun t=>(t.1,V.int t.2.1,V.int t.2.2)) (fun i ys H'=>aB H3 H'/\∃ us,T3 H' ys us/\us.length=i/\∀ t ∈ us,0<=t.2.1/\t.2.1 < m/\0<=t.2.2/\t.2.2 < m) (by decide) ⟨aB.refl _,[],⟨rfl,fun u hu=>by cases hu⟩,rfl,fun u hu=>by cases hu⟩ (by rw [AM]; exact small (by omega)) ?_ ?_ ?_⟩
   ·rintro i ys H' _ ⟨s',_⟩
    rw [em]
    refine ⟨SqL.of (s' _ _ tA.at'),fun t ht => ?_⟩
    obtain ⟨tt,htt,rfl⟩:=Bc.mp ht
    exact SqT.of (s' _ _ (tA.tup tt htt))
   ·rintro i t ys H' ht hy ⟨s',us,tu,lu,bu⟩ R1 R0 r1 r0
    rw [AX] at ht
    cases hi:ts[i]? with
    | none=>rw [hi] at ht; cases ht
    | some tt =>
    rw [hi] at ht
    have ht':=Bb ht
    subst ht'
    have bb:=tA.bnd tt (AY hi)
    refine bX ⟨_,rfl,_,_,rfl,rfl,_,rfl,_,_,rfl,rfl,_,rfl,_,_,rfl,rfl,_,rfl,_,_,rfl,rfl,(by show 2<=sizeLine; decide),fun tn htn=>r1 _ _ ⟨s'.trans (ae htn _),us ++ [(tn,m - 1 - tt.2.1,m - 1 - tt.2.2)],tu.add htn _ _,by rw [AQ,lu]; rfl,eY bu (by omega)⟩⟩
   ·rintro ys H9 hy ⟨s9,us,tu,lu,bu⟩ L hL
    rw [AM] at lu
    exact mT _ _ ⟨n,m,wy,c,t,L,us,_,_,_,_,_,rfl,n0,m0,m1,cc0,cc1,s3.trans (s9.trans (ae hL _)),(s3.trans s9).free hL,tu.zK hL bu,by omega⟩
 refine eX ((aH pJ).drop 6) (MT H most 30) ?hV fun tV pV mV => ?gV
 case hV =>
  refine ⟨_,ah (bL (aO dG (pv 3) ai (aR _)) (ah (dH (i:=6) ["place", "many"] [none,some 2] rfl bH.nd rfl rfl (bI rfl B.b_range (aa (pv 2) ag)) rfl (fun _ _ _ _ _=>ak (i:=0) ndPM rfl (Or.inl rfl)) (fun _ _ _ _ _=>cC)
    (fun _ _ _ _ _=>bD (aa (pv 0) (aa (aL ff (aL cA (pv 0) ai) (pv 1)) ag))))
   (au (aQ (i:=4) bH.nd rfl (Or.inl rfl) (aL ff (pv 4) ai)))) aV) pU,?_⟩
  rintro σ H2 ⟨n,m,wy,c,t,l,ts,c7,c8,c9,c10,c11,rfl,n0,m0,m1,cc0,cc1,s2,hl,tA,lt⟩
  refine ⟨_,rfl,rfl,_,rfl,ia (fun _ => ?_) fun _=>mU _ _ ⟨n,m,wy,c,t,l,ts,_,_,_,_,_,rfl,n0,m0,m1,cc0,cc1,s2,hl,tA,lt⟩⟩
  refine ⟨_,rfl,m,rfl,by omega,by omega,cJ (fun i ys H'=>aB H2 H'/\∃ us,T3 H' ys us/\us.length=i/\∀ t ∈ us,0<=t.2.1/\t.2.1 < m/\0<=t.2.2/\t.2.2 < m) ⟨aB.refl _,[],⟨rfl,fun u hu=>by cases hu⟩,rfl,fun u hu=>by cases hu⟩ (small (by omega)) ?_ ?_⟩
  ·rintro i ys H' hi hy ⟨s',us,tu,lu,bu⟩ R1 R0 r1 r0
   have mp:0 < m:=by omega
   have b1:=CO (0 + (i:Int) + 1) (b:=m) (by omega)
   have b2:=CD (0 + (i:Int) + 1) mp
   exact bX ⟨_,rfl,_,rfl,_,_,rfl,rfl,_,rfl,_,_,rfl,rfl,mp,(by show 2<=sizeLine; decide),fun tn htn=>r1 _ _ ⟨s'.trans (ae htn _),us ++ [(tn,0 + (i:Int),(0 + (i:Int) + 1) % m)],tu.add htn _ _,by rw [AQ,lu]; rfl,eY bu (by omega)⟩⟩
  ·rintro ys H9 hy ⟨s9,us,tu,lu,bu⟩ L hL
   have z0:=CO c (b:=5) (by decide)
   have z1:=CD c (b:=5) (by decide)
   exact ⟨_,rfl,_,_,rfl,rfl,(by show (0:Int) < 5; decide),mU _ _ ⟨n,m,wy,c % 5,t,L,us,_,_,_,_,_,rfl,n0,m0,m1,z0,by omega,s2.trans (s9.trans (ae hL _)),(s2.trans s9).free hL,tu.zK hL bu,by omega⟩⟩
 refine ⟨_,ah (bC (aq aF rfl B.b_divmod aP (aa (pv 0) (aa (aL cA (pv 1) ai) ag))) (bo rfl (aA (ak (i:=0) bH.nd rfl (Or.inl rfl)) (aA (ak (i:=2) bH.nd rfl (Or.inr rfl)) aT))))
  (ah (bC (aq aF rfl B.b_divmod aP (aa (pv 0) (aa ai ag))) (bo rfl (aA (ak (i:=0) bH.nd rfl (Or.inl rfl)) (aA (ak (i:=3) bH.nd rfl (Or.inl rfl)) aT))))
  (ah (bC (aq aF rfl B.b_divmod aP (aa (pv 0) (aa (aL cA (aL fe ai (pv 1)) ai) ag))) (bo rfl (aA (ak (i:=0) bH.nd rfl (Or.inl rfl)) (aA (ak (i:=4) bH.nd rfl (Or.inl rfl)) aT))))
  (ah (bC (aq aF rfl B.b_divmod aP (aa (pv 0) (aa ai ag))) (bo rfl (aA (ak (i:=0) bH.nd rfl (Or.inl rfl)) (aA (ak (i:=5) bH.nd rfl (Or.inl rfl)) aT))))
  (ah (aQ (i:=6) bH.nd rfl (Or.inl rfl) (cQ ag))
  (ah (bL (aO oD (pv 3) ai (aR _))
   (ah (bV Bw rfl (gj rfl B.b_range (aa ai (aa (pv 2) ag))) (ak (i:=7) bH.nd rfl (Or.inl rfl))
    (ah (bC (aq aF rfl B.b_divmod aP (aa (pv 0) (aa (pv 7) ag))) (bo rfl (aA (ak (i:=0) bH.nd rfl (Or.inl rfl)) (aA (ak (i:=8) bH.nd rfl (Or.inl rfl)) aT))))
    (au (bR (dy Bm BG BH bT (pv 6) (aa (bD (aa (pv 8) (aa (pv 7) ag))) ag))))))
   (au (aQ (i:=4) bH.nd rfl (Or.inl rfl) (aL ff (pv 4) ai)))) aV) pV))))),?_⟩
 obtain ⟨q0,x0,x1⟩:=dmN n0 (show 0 < most + 1 by omega)
 refine ⟨_,rfl,_,rfl,_,_,rfl,rfl,n,most + 1,rfl,⟨by omega,by omega⟩,fun p hp=>⟨p,_,rfl,SqT.of af,rfl,_,_,rfl,_,_,rfl,rfl,?_⟩⟩
 have s1:=ae hp (.tup [.int (n / (most + 1)),.int (n % (most + 1))])
 generalize upd H p (.tup [.int (n / (most + 1)),.int (n % (most + 1))])=H1 at s1
 generalize n / (most + 1)=n1 at q0
 generalize n % (most + 1)=m at x0 x1
 obtain ⟨q1,y0,y1⟩:=dmN (j:=6) q0 (by decide)
 refine ⟨_,rfl,n1,6,rfl,⟨by decide,by decide⟩,fun p hp=>⟨p,_,rfl,SqT.of af,rfl,_,_,rfl,_,_,rfl,rfl,?_⟩⟩
 have s2:=s1.trans (ae hp (.tup [.int (n1 / 6),.int (n1 % 6)]))
 generalize upd H1 p (.tup [.int (n1 / 6),.int (n1 % 6)])=H2 at s2
 generalize n1 / 6=n2 at q1
 generalize n1 % 6=wy at y0 y1
 obtain ⟨q2,z0,z1⟩:=dmN q1 (show 0 < 2 * most + 1 by omega)
 refine ⟨_,rfl,_,rfl,_,_,rfl,rfl,.inl ⟨by decide,by decide⟩,_,_,rfl,rfl,n2,2 * most + 1,rfl,⟨by omega,by omega⟩,fun p hp=>⟨p,_,rfl,SqT.of af,rfl,_,_,rfl,_,_,rfl,rfl,?_⟩⟩
 have s3:=s2.trans (ae hp (.tup [.int (n2 / (2 * most + 1)),.int (n2 % (2 * most + 1))]))
 generalize upd H2 p (.tup [.int (n2 / (2 * most + 1)),.int (n2 % (2 * most + 1))])=H3 at s3
 generalize n2 / (2 * most + 1)=n3 at q2
 generalize n2 % (2 * most + 1)=c at z0 z1
 obtain ⟨q3,u0,u1⟩:=dmN (j:=2) q2 (by decide)
 refine ⟨_,rfl,n3,2,rfl,⟨by decide,by decide⟩,fun p hp=>⟨p,_,rfl,SqT.of af,rfl,_,_,rfl,_,_,rfl,rfl,?_⟩⟩
 have s4:=s3.trans (ae hp (.tup [.int (n3 / 2),.int (n3 % 2)]))
 generalize upd H3 p (.tup [.int (n3 / 2),.int (n3 % 2)])=H4 at s4
 generalize n3 / 2=n4 at q3
 generalize n3 % 2=t at u0 u1
 refine ⟨(by show 0<=sizeLine; decide),fun l hl4 => ?_⟩
 have hl:=s4.free hl4
 have s5:=s4.trans (ae hl4 (.lst []))
 have tA:bU (upd H4 l (.lst [])) l m []:=⟨af,fun t z=>(by cases z),fun t z=>(by cases z)⟩
 generalize upd H4 l (.lst [])=H5 at s5 tA
 refine ⟨_,rfl,_,_,rfl,rfl,_,rfl,ia (fun _ => ?_) fun _=>mV _ _ ⟨n4,m,wy,c,t,l,[],_,_,_,_,_,rfl,q3,x0,by omega,z0,by omega,s5,hl,tA,by simp⟩⟩
 refine ⟨_,rfl,1,_,rfl,⟨by decide,by decide,by omega,by omega⟩,bS (fun j σ H4=>(∃ (n:Int) (c7 c8:Option V),0<=n/\σ=[some (.int n),some (.int most),some (.int m),some (.int wy),some (.int c),some (.int t),some (.ref l),c7,c8,none,none,none])/\aB H H4/\∃ us,bU H4 l m us/\us.length=j) ⟨⟨_,_,_,q3,rfl⟩,s5,[],tA,rfl⟩ ?_ ?_⟩
 ·rintro j σ H6 hj ⟨⟨n,c7,c8,n0,rfl⟩,s6,us,tA6,lu⟩
  have hj':1 + (j:Int) < m:=by omega
  obtain ⟨q5,v0,v1⟩:=dmN n0 (show 0 < 1 + (j:Int) by omega)
  refine ⟨_,rfl,_,rfl,n,1 + (j:Int),rfl,⟨by omega,by omega⟩,fun p hp=>⟨p,_,rfl,SqT.of af,rfl,_,_,rfl,_,_,rfl,rfl,?_⟩⟩
  have s7:=s6.trans (ae hp (.tup [.int (n / (1 + (j:Int))),.int (n % (1 + (j:Int)))]))
  have tA7:=tA6.same (ae hp (.tup [.int (n / (1 + (j:Int))),.int (n % (1 + (j:Int)))]))
  generalize upd H6 p (.tup [.int (n / (1 + (j:Int))),.int (n % (1 + (j:Int)))])=H7 at s7 tA7
  generalize n / (1 + (j:Int))=n5 at q5
  generalize n % (1 + (j:Int))=o at v0 v1
  refine ⟨_,rfl,.inl ⟨rfl,_,SqL.of tA7.at'⟩,_,rfl,_,rfl,(by show 2<=sizeLine; decide),fun tt htt => ?_⟩
  exact ⟨l,_,_,rfl,rfl,(ae htt _) _ _ tA7.at',(by rw [AM]; exact cf (by omega)),⟨_,_,_,q5,rfl⟩,aB.bG (s7.trans (ae htt _)) hl _,us ++ [(tt,o,1 + (j:Int))],tA7.push (H0:=H) htt (by omega),by rw [AQ,lu]; rfl⟩
 ·rintro σ H6 ⟨⟨n,c7,c8,n0,rfl⟩,s6,us,tA6,lu⟩
  have w0:=CO c (b:=4) (by decide)
  have w1:=CD c (b:=4) (by decide)
  exact ⟨_,rfl,_,_,rfl,rfl,(by show (0:Int) < 4; decide),mV _ _ ⟨n,m,wy,c % 4,t,l,us,_,_,_,_,_,rfl,n0,x0,by omega,w0,by omega,s6,hl,tA6,by omega⟩⟩
end
open PySem L2
def TO (H:Hp) (l:Addr) (m:Int) (ts:List (Addr × Int × Int)):Prop:=bU H l m ts/\∀ t ∈ ts,t.2.1<=t.2.2
theorem TO.same {H H':Hp} {l:Addr} {m:Int} {ts:List (Addr × Int × Int)} (h:TO H l m ts) (s:aB H H'):TO H' l m ts:=⟨h.1.same s,h.2⟩
theorem TO.push {H:Hp} {l:Addr} {m:Int} {ts:List (Addr × Int × Int)} (h:TO H l m ts) {t:Addr} (ht:H t=none) {a b:Int} (hab:0<=a/\a<=b/\b < m) :
  TO (upd (upd H t (.tup [.int a,.int b])) l (.lst ((ts.map fun t => .ref t.1) ++ [.ref t]))) l m (ts ++ [(t,a,b)]):=by
 refine ⟨h.1.push (H0:=H) ht (by omega),fun x hx => ?_⟩
 rcases A2.mp hx with z | z
 ·exact h.2 x z
 ·rw [AV] at z; subst z; exact hab.2.1
theorem mR {α β : Type} (g : α -> β):∀ (l:List α) (n:Nat),(l.map g).eraseIdx n=(l.eraseIdx n).map g
 | [],_=>rfl
 | _ :: _,0=>rfl
 | x :: l,n + 1=>by
  show g x :: (l.map g).eraseIdx n=g x :: (l.eraseIdx n).map g
  rw [mR g l n]
theorem TO.erase {H:Hp} {l:Addr} {m:Int} {ts:List (Addr × Int × Int)} (h:TO H l m ts) (k:Nat):TO (upd H l (.lst ((ts.map fun t=>V.ref t.1).eraseIdx k))) l m (ts.eraseIdx k):=by
 rw [mR]
 exact ⟨h.1.put (H:=H) (fun t ht=>h.1.tup t (DY ht)) fun t ht=>h.1.bnd t (DY ht),fun t ht=>h.2 t (DY ht)⟩
def rw3 (t:Addr × Int × Int):Addr × List Int:=(t.1,[t.2.1,t.2.2])
theorem sj (ts:List (Addr × Int × Int)):(ts.map rw3).map (fun u=>V.ref u.1)=ts.map fun t=>V.ref t.1:=by rw [CZ]; rfl
theorem TO.row {H:Hp} {l:Addr} {m:Int} {ts:List (Addr × Int × Int)} (h:TO H l m ts):∀ u ∈ ts.map rw3,H u.1=some (.tup (u.2.map V.int))/\∃ a b:Int,u.2=[a,b]/\0<=a/\a<=b/\b < m:=fun u hu=>by
 obtain ⟨t,ht,rfl⟩:=Bc.mp hu
 exact ⟨h.1.tup t ht,t.2.1,t.2.2,rfl,(h.1.bnd t ht).1,h.2 t ht,(h.1.bnd t ht).2.2.2⟩
abbrev sk:Sp:=fun vs H Q _=>∃ n:Int,vs=[.int n]/\0<=n/\∀ (p b:Addr) (n' m:Int) (ts:List (Addr × List Int)) (H':Hp),aB H H'->H' p=some (.tup [.ref b,.int n'])->Wb H' b m ts->0<=m->m<=40->0<=n'->Q (.ref p) H'
@[irreducible] def fT:Sp:=sk
theorem da {vs:List V} {H:Hp} {Q:VK} {E:XK}:fT vs H Q E ↔ sk vs H Q E:=by
 delta fT
 exact CS
def MW (H:Hp) (σ:St) (H':Hp):Prop:=∃ (n m:Int) (l:Addr) (ts:List (Addr × Int × Int)) (c2 c4 c5 c6 c7 c8 c9 c10 c11:Option V),
 σ=[some (.int n),some (.int m),c2,some (.ref l),c4,c5,c6,c7,c8,c9,c10,c11]/\0<=n/\0<=m/\m<=40/\aB H H'/\H l=none/\TO H' l m ts/\ts.length<=200
theorem AF {d:Int} (h0:0<=d) (h1:d < 3):∃ e:Int,0 < e/\e<=40/\atI [V.int 2,.int 5,.int 40] d=some (.int e):=by
 have hd:d=0\/d=1\/d=2:=by omega
 rcases hd with e | e | e <;> subst e
 ·exact ⟨2,by decide,by decide,rfl⟩
 ·exact ⟨5,by decide,by decide,rfl⟩
 ·exact ⟨40,by decide,by decide,rfl⟩
section
variable {P:Program} {w:World} {K:PySem.W.Frag} {mg:Str->Option Value} {base:Heap} {f:Addr} {fd:FuncData}
theorem bE:aW ["number", "many", "near", "ties", "place", "other", "gone", "k", "at", "count", "one", "turn"] ["number"] (az vQ):=⟨rfl,rfl,rfl,by decide +kernel,rfl,by decide +kernel,by decide +kernel⟩
theorem zM (F:Fun K "_law_wide" "_law_wide" vQ f fd) (B:Blt mg):cB P w K mg base CX0 1 f fd ["number"] fT:=by
 refine F.ok bE (fun vs H Q E h => ?_) (fun cdv A outer s H vs Q E hr h => ?_)
 ·obtain ⟨c,rfl,_⟩:=da.mp h
  rfl
 obtain ⟨n,rfl,n0,q⟩:=da.mp h
 refine eX ((aH vQ).drop 11) (MW H) ?hT fun tT pT mT => ?gT
 case hT =>
  refine ⟨_,au (aS (bD (aa (bD (aa (pv 1) (aa (aI bB rfl B.b_tuple DN (aa (aq fq rfl B.b_sorted cZ (aa (pv 3) ag)) ag)) ag))) (aa (pv 0) ag)))),?_⟩
  rintro σ H8 ⟨n,m,l,ts,c2,c4,c5,c6,c7,c8,c9,c10,c11,rfl,n0,m0,m1,s8,hl,tA,lt⟩
  have row:=tA.row
  refine ⟨_,rfl,_,rfl,l,ts.map rw3,rfl,.inl (SqL.of (by rw [sj]; exact tA.1.at')),fun u hu=>⟨SqT.of (row u hu).1,fun z => ?_⟩,fun L2 out hL2 po ps=>⟨L2,_,rfl,.inl ⟨SqL.of af,fun l3 hl3=>⟨(by show 2<=sizeLine; decide),fun b hb=>⟨_,rfl,(by show 2<=sizeLine; decide),fun p hp => ?_⟩⟩⟩⟩⟩
  ·obtain ⟨_,x,y,e,_⟩:=row u hu
   rw [z] at e; cases e
  have s12:=(ae hL2 (.lst (out.map fun t => .ref t.1))).trans (ae hl3 (.tup (out.map fun t => .ref t.1)))
  have sb:=ae hb (.tup [.int m,.ref l3])
  have sp:=ae hp (.tup [.ref b,.int n])
  refine q p b n m out _ (s8.trans (s12.trans (sb.trans sp))) af ⟨⟨l3,sp _ _ af,sp _ _ (sb _ _ af)⟩,fun u hu=>sp _ _ (sb _ _ (s12 _ _ (row u (po.mem_iff.mp hu)).1)),fun u hu=>(row u (po.mem_iff.mp hu)).2,?_⟩ m0 m1 n0
  rw [po.length_eq,AM]; exact lt
 refine ⟨_,ah (bC (aq aF rfl B.b_divmod aP (aa (pv 0) (aa ai ag))) (bo rfl (aA (ak (i:=0) bE.nd rfl (Or.inl rfl)) (aA (ak (i:=1) bE.nd rfl (Or.inr rfl)) aT))))
  (ah (aQ (i:=1) bE.nd rfl (Or.inr rfl) (aL cA (pv 1) ai))
  (ah (bC (aq aF rfl B.b_divmod aP (aa (pv 0) (aa ai ag))) (bo rfl (aA (ak (i:=0) bE.nd rfl (Or.inl rfl)) (aA (ak (i:=2) bE.nd rfl (Or.inl rfl)) aT))))
  (ah (aQ (i:=3) bE.nd rfl (Or.inl rfl) (cQ ag))
  (ah (bV Bw rfl (gj rfl B.b_range (aa ai (aa (pv 1) ag))) (ak (i:=4) bE.nd rfl (Or.inl rfl))
   (ah (bC (aq aF rfl B.b_divmod aP (aa (pv 0) (aa (aN cH (cQ (aa ai (aa ai (aa ai ag)))) (pv 2) (fun _ _=>rfl)) ag))) (bo rfl (aA (ak (i:=0) bE.nd rfl (Or.inl rfl)) (aA (ak (i:=5) bE.nd rfl (Or.inl rfl)) aT))))
   (au (bR (dy Bm BG BH bT (pv 3) (aa (bD (aa (aq (gk rfl) rfl B.b_max i3 (aa ai (aa (aL dr (aL dr (pv 4) ai) (pv 5)) ag))) (aa (pv 4) ag))) ag))))))
  (ah (bC (aq aF rfl B.b_divmod aP (aa (pv 0) (aa ai ag))) (bo rfl (aA (ak (i:=0) bE.nd rfl (Or.inl rfl)) (aA (ak (i:=6) bE.nd rfl (Or.inl rfl)) aT))))
  (ah (bV Bw rfl (bI rfl B.b_range (aa (pv 6) ag)) (ak (i:=7) bE.nd rfl (Or.inl rfl))
   (ah (bC (aq aF rfl B.b_divmod aP (aa (pv 0) (aa (aq ba rfl B.b_len Ei (aa (pv 3) ag)) ag))) (bo rfl (aA (ak (i:=0) bE.nd rfl (Or.inl rfl)) (aA (ak (i:=8) bE.nd rfl (Or.inl rfl)) aT))))
   (au (bR (dy Bm Em En oH (pv 3) (aa (pv 8) ag))))))
  (ah (bC (aq aF rfl B.b_divmod aP (aa (pv 0) (aa ai ag))) (bo rfl (aA (ak (i:=0) bE.nd rfl (Or.inl rfl)) (aA (ak (i:=9) bE.nd rfl (Or.inl rfl)) aT))))
  (ah (bV Bw rfl (bI rfl B.b_range (aa (pv 9) ag)) (ak (i:=7) bE.nd rfl (Or.inl rfl))
   (ah (bC (aq aF rfl B.b_divmod aP (aa (pv 0) (aa (pv 1) ag))) (bo rfl (aA (ak (i:=0) bE.nd rfl (Or.inl rfl)) (aA (ak (i:=10) bE.nd rfl (Or.inl rfl)) aT))))
   (ah (bC (aq aF rfl B.b_divmod aP (aa (pv 0) (aa (pv 1) ag))) (bo rfl (aA (ak (i:=0) bE.nd rfl (Or.inl rfl)) (aA (ak (i:=5) bE.nd rfl (Or.inl rfl)) aT))))
   (au (bR (dy Bm BG BH bT (pv 3) (aa (bD (aa (aq (gn rfl) rfl B.b_min d9 (aa (pv 10) (aa (pv 5) ag))) (aa (aq (gk rfl) rfl B.b_max i3 (aa (pv 10) (aa (pv 5) ag))) ag))) ag)))))))
  (ah (bC (aq aF rfl B.b_divmod aP (aa (pv 0) (aa ai ag))) (bo rfl (aA (ak (i:=0) bE.nd rfl (Or.inl rfl)) (aA (ak (i:=11) bE.nd rfl (Or.inl rfl)) aT))))
  (ah (bL (aO dG (pv 11) ai (aR _)) (au (dH (i:=3) ["one", "other", "many"] [none,none,some 1] rfl bE.nd rfl rfl (cj (pv 3)) rfl (fun _ _ _ _ _=>oR (K:=K) (i:=0) (j:=1) yv rfl rfl (Or.inl rfl) (Or.inl rfl)) (fun _ _ _ _ _=>cC)
    (fun _ _ _ _ _=>bD (aa (aL dr (aL dr (pv 2) ai) (pv 1)) (aa (aL dr (aL dr (pv 2) ai) (pv 0)) ag))))) aV)
   pT)))))))))),?_⟩
 obtain ⟨q0,x0,x1⟩:=dmN (j:=11) n0 (by decide)
 refine ⟨_,rfl,n,11,rfl,⟨by decide,by decide⟩,fun p hp=>⟨p,_,rfl,SqT.of af,rfl,_,_,rfl,_,_,rfl,rfl,?_⟩⟩
 have s1:=ae hp (.tup [.int (n / 11),.int (n % 11)])
 generalize upd H p (.tup [.int (n / 11),.int (n % 11)])=H1 at s1
 generalize n / 11=n1 at q0
 generalize n % 11=m' at x0 x1
 refine ⟨_,rfl,_,_,rfl,rfl,?_⟩
 dsimp only
 have m30:30<=m' + 30:=by omega
 have m40:m' + 30<=40:=by omega
 generalize m' + 30=m at m30 m40
 obtain ⟨q1,y0,y1⟩:=dmN (j:=3) q0 (by decide)
 refine ⟨_,rfl,n1,3,rfl,⟨by decide,by decide⟩,fun p hp=>⟨p,_,rfl,SqT.of af,rfl,_,_,rfl,_,_,rfl,rfl,?_⟩⟩
 have s2:=s1.trans (ae hp (.tup [.int (n1 / 3),.int (n1 % 3)]))
 generalize upd H1 p (.tup [.int (n1 / 3),.int (n1 % 3)])=H2 at s2
 generalize n1 / 3=n2 at q1
 generalize n1 % 3=nr at y0 y1
 obtain ⟨e,e0,e1,ee⟩:=AF y0 y1
 refine ⟨(by show 0<=sizeLine; decide),fun l hl4 => ?_⟩
 have hl:=s2.free hl4
 have s5:=s2.trans (ae hl4 (.lst []))
 have tA:TO (upd H2 l (.lst [])) l m []:=⟨⟨af,fun t z=>(by cases z),fun t z=>(by cases z)⟩,fun t z=>(by cases z)⟩
 generalize upd H2 l (.lst [])=H5 at s5 tA
 refine ⟨_,rfl,1,_,rfl,⟨by decide,by decide,by omega,by omega⟩,bS (fun j σ H4=>(∃ (n:Int) (c4 c5:Option V),0<=n/\σ=[some (.int n),some (.int m),some (.int nr),some (.ref l),c4,c5,none,none,none,none,none,none])/\aB H H4/\∃ us,TO H4 l m us/\us.length=j) ⟨⟨_,_,_,q1,rfl⟩,s5,[],tA,rfl⟩ ?_ ?_⟩
 ·rintro j σ H6 hj ⟨⟨n,c4,c5,n0,rfl⟩,s6,us,tA6,lu⟩
  have hj':1 + (j:Int) < m:=by omega
  obtain ⟨q5,v0,v1⟩:=dmN n0 e0
  refine ⟨_,rfl,(by show 3<=sizeLine; decide),fun b hb=>⟨_,rfl,b,_,nr,_,rfl,rfl,SqL.of af,ee,n,e,rfl,⟨e0,by omega⟩,fun p hp=>⟨p,_,rfl,SqT.of af,rfl,_,_,rfl,_,_,rfl,rfl,?_⟩⟩⟩
  have g:=(ae hb (.lst [.int 2,.int 5,.int 40])).trans (ae hp (.tup [.int (n / e),.int (n % e)]))
  have s7:=s6.trans g
  have tA7:=tA6.same g
  generalize upd (upd H6 b (.lst [.int 2,.int 5,.int 40])) p (.tup [.int (n / e),.int (n % e)])=H7 at s7 tA7
  generalize n / e=n5 at q5
  generalize n % e=o at v0 v1
  refine ⟨_,rfl,.inl ⟨rfl,_,SqL.of tA7.1.at'⟩,_,rfl,_,_,rfl,rfl,_,rfl,_,_,rfl,rfl,_,_,rfl,_,rfl,(by show 2<=sizeLine; decide),fun tt htt => ?_⟩
  exact ⟨l,_,_,rfl,rfl,(ae htt _) _ _ tA7.1.at',(by rw [AM]; exact cf (by omega)),⟨_,_,_,q5,rfl⟩,aB.bG (s7.trans (ae htt _)) hl _,us ++ [(tt,_,1 + (j:Int))],tA7.push htt (by split <;> omega),by rw [AQ,lu]; rfl⟩
 rintro σ H6 ⟨⟨n,c4,c5,n0,rfl⟩,s6,us,tA6,lu⟩
 obtain ⟨q6,y0,y1⟩:=dmN (j:=4) n0 (by decide)
 refine ⟨_,rfl,n,4,rfl,⟨by decide,by decide⟩,fun p hp=>⟨p,_,rfl,SqT.of af,rfl,_,_,rfl,_,_,rfl,rfl,?_⟩⟩
 have s7:=s6.trans (ae hp (.tup [.int (n / 4),.int (n % 4)]))
 have tA7:=tA6.same (ae hp (.tup [.int (n / 4),.int (n % 4)]))
 generalize upd H6 p (.tup [.int (n / 4),.int (n % 4)])=H7 at s7 tA7
 generalize n / 4=n6 at q6
 generalize n % 4=g at y0 y1
 refine ⟨_,rfl,g,rfl,by omega,by omega,bS (fun j σ H4=>(∃ (n:Int) (c7 c8:Option V),0<=n/\σ=[some (.int n),some (.int m),some (.int nr),some (.ref l),c4,c5,some (.int g),c7,c8,none,none,none])/\aB H H4/\∃ us,TO H4 l m us/\us.length + j=(m - 1).toNat) ⟨⟨_,_,_,q6,rfl⟩,s7,us,tA7,by omega⟩ ?_ ?_⟩
 ·rintro j σ H8 hj ⟨⟨n,c7,c8,n0,rfl⟩,s8,us,tA8,lu⟩
  have lp:0 < us.length:=by omega
  obtain ⟨q8,v0,v1⟩:=dmN n0 (show (0:Int) < ((us.map fun t=>V.ref t.1).length:Int) by rw [AM]; omega)
  refine ⟨_,rfl,_,rfl,l,_,rfl,.inl (SqL.of tA8.1.at'),n,_,rfl,⟨by rw [AM]; omega,by rw [AM]; omega⟩,fun p hp=>⟨p,_,rfl,SqT.of af,rfl,_,_,rfl,_,_,rfl,rfl,?_⟩⟩
  have g9:=ae hp (.tup [.int (n / ((us.map fun t=>V.ref t.1).length:Int)),.int (n % ((us.map fun t=>V.ref t.1).length:Int))])
  have s9:=s8.trans g9
  have tA9:=tA8.same g9
  generalize upd H8 p (.tup [.int (n / ((us.map fun t=>V.ref t.1).length:Int)),.int (n % ((us.map fun t=>V.ref t.1).length:Int))])=H9 at s9 tA9
  generalize n / ((us.map fun t=>V.ref t.1).length:Int)=n8 at q8
  generalize n % ((us.map fun t=>V.ref t.1).length:Int)=at' at v0 v1
  rw [AM] at v1
  obtain ⟨pn,rfl⟩:∃ k:Nat,at'=k:=⟨at'.toNat,by omega⟩
  have ep:us[pn]? = some us[pn]:=AO (by omega)
  refine ⟨_,rfl,.inl ⟨rfl,_,SqL.of tA9.1.at'⟩,_,rfl,l,_,(pn:Int),pn,.ref us[pn].1,rfl,rfl,tA9.1.at',by omega,by omega,?_,by rw [AX,ep]; rfl,⟨_,_,_,q8,rfl⟩,aB.bG s9 hl _,us.eraseIdx pn,tA9.erase pn,?_⟩
  ·have:=Ex (i:=(pn:Int)) (n:=(us.map fun u=>V.ref u.1).length) (by omega) (by rw [AM]; omega)
   simpa using this
  ·rw [DG,if_pos (by omega)]; omega
 rintro σ H8 ⟨⟨n,c7,c8,n0,rfl⟩,s8,us,tA8,lu⟩
 have lu':us.length<=39:=by omega
 obtain ⟨q9,y0,y1⟩:=dmN (j:=6) n0 (by decide)
 refine ⟨_,rfl,n,6,rfl,⟨by decide,by decide⟩,fun p hp=>⟨p,_,rfl,SqT.of af,rfl,_,_,rfl,_,_,rfl,rfl,?_⟩⟩
 have s9:=s8.trans (ae hp (.tup [.int (n / 6),.int (n % 6)]))
 have tA9:=tA8.same (ae hp (.tup [.int (n / 6),.int (n % 6)]))
 generalize upd H8 p (.tup [.int (n / 6),.int (n % 6)])=H9 at s9 tA9
 generalize n / 6=n9 at q9
 generalize n % 6=ct at y0 y1
 refine ⟨_,rfl,ct,rfl,by omega,by omega,bS (fun j σ H4=>(∃ (n:Int) (c5 c7 c10:Option V),0<=n/\σ=[some (.int n),some (.int m),some (.int nr),some (.ref l),c4,c5,some (.int g),c7,c8,some (.int ct),c10,none])/\aB H H4/\∃ us,TO H4 l m us/\us.length<=39 + j) ⟨⟨_,_,_,_,q9,rfl⟩,s9,us,tA9,by omega⟩ ?_ ?_⟩
 ·rintro j σ H10 hj ⟨⟨n,c5,c7,c10,n0,rfl⟩,s10,us,tA10,lu⟩
  have mp:0 < m:=by omega
  obtain ⟨q0,x0,x1⟩:=dmN n0 mp
  refine ⟨_,rfl,_,rfl,n,m,rfl,⟨mp,by omega⟩,fun p hp=>⟨p,_,rfl,SqT.of af,rfl,_,_,rfl,_,_,rfl,rfl,?_⟩⟩
  have tA1:=tA10.same (ae hp (.tup [.int (n / m),.int (n % m)]))
  have s4:=s10.trans (ae hp (.tup [.int (n / m),.int (n % m)]))
  generalize upd H10 p (.tup [.int (n / m),.int (n % m)])=H4 at tA1 s4
  generalize n / m=n1 at q0
  generalize n % m=x at x0 x1
  obtain ⟨q1,y0,y1⟩:=dmN q0 mp
  refine ⟨_,rfl,_,rfl,n1,m,rfl,⟨mp,by omega⟩,fun p hp=>⟨p,_,rfl,SqT.of af,rfl,_,_,rfl,_,_,rfl,rfl,?_⟩⟩
  have tA2:=tA1.same (ae hp (.tup [.int (n1 / m),.int (n1 % m)]))
  have s5:=s4.trans (ae hp (.tup [.int (n1 / m),.int (n1 % m)]))
  generalize upd H4 p (.tup [.int (n1 / m),.int (n1 % m)])=H5 at tA2 s5
  generalize n1 / m=n2 at q1
  generalize n1 % m=y at y0 y1
  refine ⟨_,rfl,.inl ⟨rfl,_,SqL.of tA2.1.at'⟩,_,rfl,_,rfl,_,_,rfl,_,rfl,_,rfl,_,_,rfl,(by show 2<=sizeLine; decide),fun tt htt => ?_⟩
  refine ⟨l,_,_,rfl,rfl,(ae htt _) _ _ tA2.1.at',(by rw [AM]; exact cf (by omega)),⟨_,_,_,_,q1,rfl⟩,aB.bG (s5.trans (ae htt _)) hl _,us ++ [(tt,_,_)],tA2.push htt ⟨?_,?_,?_⟩,by rw [AQ]; show us.length + 1<=_; omega⟩
  ·split <;> omega
  ·split <;> split <;> omega
  ·split <;> omega
 rintro σ H10 ⟨⟨n,c5,c7,c10,n0,rfl⟩,s10,us,tA10,lu⟩
 obtain ⟨q9,y0,y1⟩:=dmN (j:=2) n0 (by decide)
 refine ⟨_,rfl,n,2,rfl,⟨by decide,by decide⟩,fun p hp=>⟨p,_,rfl,SqT.of af,rfl,_,_,rfl,_,_,rfl,rfl,?_⟩⟩
 have s11:=s10.trans (ae hp (.tup [.int (n / 2),.int (n % 2)]))
 have tA11:=tA10.same (ae hp (.tup [.int (n / 2),.int (n % 2)]))
 generalize upd H10 p (.tup [.int (n / 2),.int (n % 2)])=H11 at s11 tA11
 generalize n / 2=n10 at q9
 generalize n % 2=tu at y0 y1
 refine ⟨_,rfl,rfl,_,rfl,ia (fun _ => ?_) fun _=>mT _ _ ⟨n10,m,l,us,_,_,_,_,_,_,_,_,_,rfl,q9,by omega,m40,s11,hl,tA11,by omega⟩⟩
 have em:(us.map fun t=>(t.1,V.int t.2.1,V.int t.2.2)).map (fun t=>V.ref t.1)=us.map fun t=>V.ref t.1:=by rw [CZ]; rfl
 refine ⟨_,rfl,l,rfl,⟨_,SqL.of tA11.1.at'⟩,j3 (ts:=us.map fun t=>(t.1,V.int t.2.1,V.int t.2.2)) (fun i ys H'=>aB H11 H'/\∃ vs,T3 H' ys vs/\vs.length=i/\(∀ t ∈ vs,0<=t.2.1/\t.2.1 < m/\0<=t.2.2/\t.2.2 < m)/\∀ t ∈ vs,t.2.1<=t.2.2) (by decide) ⟨aB.refl _,[],⟨rfl,fun u hu=>by cases hu⟩,rfl,(fun u hu=>by cases hu),fun u hu=>by cases hu⟩ (by rw [AM]; exact small (by omega)) ?_ ?_ ?_⟩
 ·rintro i ys H' _ ⟨s',_⟩
  rw [em]
  refine ⟨SqL.of (s' _ _ tA11.1.at'),fun t ht => ?_⟩
  obtain ⟨tt,htt,rfl⟩:=Bc.mp ht
  exact SqT.of (s' _ _ (tA11.1.tup tt htt))
 ·rintro i t ys H' ht hy ⟨s',vs,tv,lv,bv,ov⟩ R1 R0 r1 r0
  rw [AX] at ht
  cases hi:us[i]? with
  | none=>rw [hi] at ht; cases ht
  | some tt =>
  rw [hi] at ht
  have ht':=Bb ht
  subst ht'
  have bb:=tA11.1.bnd tt (AY hi)
  have oo:=tA11.2 tt (AY hi)
  refine bX ⟨_,rfl,_,_,rfl,rfl,_,rfl,_,_,rfl,rfl,_,rfl,_,_,rfl,rfl,_,rfl,_,_,rfl,rfl,(by show 2<=sizeLine; decide),fun tn htn=>r1 _ _ ⟨s'.trans (ae htn _),vs ++ [(tn,m - 1 - tt.2.2,m - 1 - tt.2.1)],tv.add htn _ _,by rw [AQ,lv]; rfl,eY bv (by omega),fun x hx => ?_⟩⟩
  rcases A2.mp hx with z | z
  ·exact ov x z
  ·rw [AV] at z; subst z
   show m - 1 - tt.2.2<=m - 1 - tt.2.1
   omega
 ·rintro ys H12 hy ⟨s12,vs,tv,lv,bv,ov⟩ L hL
  rw [AM] at lv
  exact mT _ _ ⟨n10,m,L,vs,_,_,_,_,_,_,_,_,_,rfl,q9,by omega,m40,s11.trans (s12.trans (ae hL _)),(s11.trans s12).free hL,⟨tv.zK hL bv,ov⟩,by omega⟩
end
open PySem L2
theorem bU.ext {H:Hp} {l b:Addr} {m:Int} {ts vs:List (Addr × Int × Int)} {ys:List V} (h:bU H l m ts) (T:T3 H ys vs) (hb:H b=none) (bv:∀ t ∈ vs,0<=t.2.1/\t.2.1 < m/\0<=t.2.2/\t.2.2 < m) :
  bU (upd (upd H b (.lst ys)) l (.lst ((ts.map fun t => .ref t.1) ++ ys))) l m (ts ++ vs):=by
 have s:=ae hb (.lst ys)
 rw [T.1, <- A4]
 refine (h.same (ae hb (.lst (vs.map fun u=>V.ref u.1)))).put (H:=H) (fun t ht => ?_) fun t ht => ?_
 ·rcases A2.mp ht with z | z
  ·exact (ae hb _) _ _ (h.tup t z)
  ·exact (ae hb _) _ _ (T.2 t z)
 ·rcases A2.mp ht with z | z
  ·exact h.bnd t z
  ·exact bv t z
section
variable {P:Program} {w:World} {K:PySem.W.Frag} {mg:Str->Option Value} {base:Heap} {f:Addr} {fd:FuncData}
theorem ndBP:(["by", "place"]:List Str).Nodup:=by decide +kernel
theorem AG:(["other", "one"]:List Str).Nodup:=by decide +kernel
theorem ck:aW ["number", "way", "many", "gone", "ties", "place", "one", "k", "at"] ["number"] (az vR):=⟨rfl,rfl,rfl,by decide +kernel,rfl,by decide +kernel,by decide +kernel⟩
theorem xQ (F:Fun K "_law_dense" "_law_dense" vR f fd) (B:Blt mg):cB P w K mg base CX0 1 f fd ["number"] fT:=by
 refine F.ok ck (fun vs H Q E h => ?_) (fun cdv A outer s H vs Q E hr h => ?_)
 ·obtain ⟨c,rfl,_⟩:=da.mp h
  rfl
 obtain ⟨n,rfl,n0,q⟩:=da.mp h
 refine ⟨_,ah (bC (aq aF rfl B.b_divmod aP (aa (pv 0) (aa ai ag))) (bo rfl (aA (ak (i:=0) ck.nd rfl (Or.inl rfl)) (aA (ak (i:=1) ck.nd rfl (Or.inl rfl)) aT))))
  (ah (bC (aq aF rfl B.b_divmod aP (aa (pv 0) (aa ai ag))) (bo rfl (aA (ak (i:=0) ck.nd rfl (Or.inl rfl)) (aA (ak (i:=2) ck.nd rfl (Or.inl rfl)) aT))))
  (ah (bC (aq aF rfl B.b_divmod aP (aa (pv 0) (aa ai ag))) (bo rfl (aA (ak (i:=0) ck.nd rfl (Or.inl rfl)) (aA (ak (i:=3) ck.nd rfl (Or.inl rfl)) aT))))
  (ah (bL (aO dG (pv 1) ai (aR _))
   (ah (aQ (i:=4) ck.nd rfl (Or.inl rfl) (cQ ag))
   (ah (bV Bw rfl (bI rfl B.b_range (aa ai ag)) (ak (i:=5) ck.nd rfl (Or.inr rfl))
    (au (bR (dy Bm DW DX iP (pv 4) (aa (cw ["by", "place"] [none,some 5] rfl (gj rfl B.b_range (aa ai (aa ai ag))) rfl (fun _ _ _ _ _=>ak (i:=0) ndBP rfl (Or.inl rfl)) (fun _ _ _ _ _=>cC)
     (fun _ _ _ _ _=>bD (aa (pv 1) (aa (aL ff (aL cA (pv 1) (pv 0)) ai) ag)))) ag)))))
   (au (aS (bD (aa (bD (aa ai (aa (aI bB rfl B.b_tuple DN (aa (aq fq rfl B.b_sorted cZ (aa
    (cw ["pair"] [none] rfl (cj (pv 4)) rfl (fun _ _ _ _ _=>ak (i:=0) ndP rfl (Or.inl rfl)) (fun _ _ _ _ _=>cC)
     (fun _ _ _ _ _=>bD (aa (aq (mL (K:=K) rfl) rfl B.b_min d9 (aa (pv 0) ag)) (aa (aq (mN (K:=K) rfl) rfl B.b_max i3 (aa (pv 0) ag)) ag)))) ag)) ag)) ag))) (aa (pv 0) ag))))))) aV)
  (ah (aQ (i:=4) ck.nd rfl (Or.inl rfl) (cQ ag))
  (ah (bV Bw rfl (bI rfl B.b_range (aa (aL cA ai (pv 2)) ag)) (ak (i:=6) ck.nd rfl (Or.inr rfl))
   (au (bR (dy Bm DW DX iP (pv 4) (aa (cw ["other", "one"] [none,some 6] rfl (gj rfl B.b_range (aa (aL cA (pv 6) ai) (aa (aL cA ai (pv 2)) ag))) rfl (fun _ _ _ _ _=>ak (i:=0) AG rfl (Or.inl rfl)) (fun _ _ _ _ _=>cC)
    (fun _ _ _ _ _=>bD (aa (pv 1) (aa (pv 0) ag)))) ag)))))
  (ah (bV Bw rfl (bI rfl B.b_range (aa (pv 3) ag)) (ak (i:=7) ck.nd rfl (Or.inl rfl))
   (ah (bC (aq aF rfl B.b_divmod aP (aa (pv 0) (aa (aq ba rfl B.b_len Ei (aa (pv 4) ag)) ag))) (bo rfl (aA (ak (i:=0) ck.nd rfl (Or.inl rfl)) (aA (ak (i:=8) ck.nd rfl (Or.inl rfl)) aT))))
   (au (bR (dy Bm Em En oH (pv 4) (aa (pv 8) ag))))))
  (au (aS (bD (aa (bD (aa (aL cA ai (pv 2)) (aa (aI bB rfl B.b_tuple DN (aa (pv 4) ag)) ag))) (aa (pv 0) ag))))))))))),?_⟩
 obtain ⟨q0,x0,x1⟩:=dmN (j:=3) n0 (by decide)
 refine ⟨_,rfl,n,3,rfl,⟨by decide,by decide⟩,fun p hp=>⟨p,_,rfl,SqT.of af,rfl,_,_,rfl,_,_,rfl,rfl,?_⟩⟩
 have s1:=ae hp (.tup [.int (n / 3),.int (n % 3)])
 generalize upd H p (.tup [.int (n / 3),.int (n % 3)])=H1 at s1
 generalize n / 3=n1 at q0
 generalize n % 3=wy at x0 x1
 obtain ⟨q1,y0,y1⟩:=dmN (j:=3) q0 (by decide)
 refine ⟨_,rfl,n1,3,rfl,⟨by decide,by decide⟩,fun p hp=>⟨p,_,rfl,SqT.of af,rfl,_,_,rfl,_,_,rfl,rfl,?_⟩⟩
 have s2:=s1.trans (ae hp (.tup [.int (n1 / 3),.int (n1 % 3)]))
 generalize upd H1 p (.tup [.int (n1 / 3),.int (n1 % 3)])=H2 at s2
 generalize n1 / 3=n2 at q1
 generalize n1 % 3=mn at y0 y1
 obtain ⟨q2,z0,z1⟩:=dmN (j:=7) q1 (by decide)
 refine ⟨_,rfl,n2,7,rfl,⟨by decide,by decide⟩,fun p hp=>⟨p,_,rfl,SqT.of af,rfl,_,_,rfl,_,_,rfl,rfl,?_⟩⟩
 have s3:=s2.trans (ae hp (.tup [.int (n2 / 7),.int (n2 % 7)]))
 generalize upd H2 p (.tup [.int (n2 / 7),.int (n2 % 7)])=H3 at s3
 generalize n2 / 7=n3 at q2
 generalize n2 % 7=g at z0 z1
 refine ⟨_,rfl,rfl,_,rfl,ia (fun _ => ?_) fun _ => ?_⟩
 ·refine ⟨(by show 0<=sizeLine; decide),fun l hl4 => ?_⟩
  have hl:=s3.free hl4
  have s5:=s3.trans (ae hl4 (.lst []))
  have tA:bU (upd H3 l (.lst [])) l 40 []:=⟨af,fun t z=>(by cases z),fun t z=>(by cases z)⟩
  generalize upd H3 l (.lst [])=H5 at s5 tA
  refine ⟨40,rfl,by decide,by decide,bS (fun i σ H4=>(∃ (c5:Option V),σ=[some (.int n3),some (.int wy),some (.int mn),some (.int g),some (.ref l),c5,none,none,none])/\aB H H4/\∃ us,bU H4 l 40 us/\us.length=5 * i) ⟨⟨_,rfl⟩,s5,[],tA,rfl⟩ ?_ ?_⟩
  ·rintro i σ H6 hi ⟨⟨c5,rfl⟩,s6,us,tA6,lu⟩
   have hi':i < 40:=hi
   refine ⟨_,rfl,.inl ⟨rfl,_,SqL.of tA6.at'⟩,1,6,rfl,⟨by decide,by decide,by decide,by decide⟩,cJ (fun k ys H'=>aB H6 H'/\∃ vs,T3 H' ys vs/\vs.length=k/\∀ t ∈ vs,0<=t.2.1/\t.2.1 < 40/\0<=t.2.2/\t.2.2 < 40) ⟨aB.refl _,[],⟨rfl,fun u hu=>by cases hu⟩,rfl,fun u hu=>by cases hu⟩ (small (by decide)) ?_ ?_⟩
   ·rintro k ys H' hk hy ⟨s',vs,tv,lv,bv⟩ R1 R0 r1 r0
    have b1:=CO (0 + (i:Int) + (1 + (k:Int))) (b:=40) (by decide)
    have b2:=CD (0 + (i:Int) + (1 + (k:Int))) (b:=40) (by decide)
    exact bX ⟨_,rfl,_,rfl,_,rfl,_,_,rfl,rfl,_,_,rfl,rfl,(by show (0:Int) < 40; decide),(by show 2<=sizeLine; decide),fun tn htn=>r1 _ _ ⟨s'.trans (ae htn _),vs ++ [(tn,0 + (i:Int),(0 + (i:Int) + (1 + (k:Int))) % 40)],tv.add htn _ _,by rw [AQ,lv]; rfl,eY bv (by omega)⟩⟩
   ·rintro ys H7 hy ⟨s7,vs,tv,lv,bv⟩ b hb
    have lv':vs.length=5:=lv
    have tA7:=tA6.same s7
    refine ⟨l,b,_,_,rfl,rfl,(ae hb _) _ _ tA7.at',af,?_,⟨_,rfl⟩,aB.bG ((s6.trans s7).trans (ae hb _)) hl _,us ++ vs,tA7.ext tv hb bv,by rw [AQ]; omega⟩
    rw [tv.1,AM,AM]; exact small (by omega)
  ·rintro σ H8 ⟨⟨c5,rfl⟩,s8,ts,tA,lt⟩
   have lt':ts.length=200:=lt
   refine ⟨_,rfl,l,rfl,⟨_,SqL.of tA.at'⟩,cq (xs:=ts.map fun t => .ref t.1) (fun i ys H'=>aB H8 H'/\∃ us,pK H' ys us/\us.map (·.2)=(ts.take i).map key) ⟨aB.refl _,[],⟨rfl,fun u hu=>by cases hu⟩,rfl⟩ (by rw [AM]; exact small (by omega)) (fun i ys H'' _ z=>SqL.of (z.1 _ _ tA.at')) ?_ ?_⟩
   ·rintro i x ys H' hx hy ⟨s',us,tu,eu⟩ R1 R0 r1 r0
    obtain ⟨tt,ht,rfl⟩:=yu hx
    have e2:=s' _ _ (tA.tup tt (AY ht))
    refine bX ⟨_,rfl,_,_,_,rfl,SqT.of e2,_,rfl,_,_,_,rfl,SqT.of e2,(by show 2<=sizeLine; decide),fun tn htn=>r1 _ _ ⟨s'.trans (ae htn _),us ++ [(tn,key tt)],tu.add htn _,?_⟩⟩
    rw [A4,eu,BU,ht,A4]
    rfl
   rintro ys H9 hy ⟨s9,us,tu,eu⟩ L hL
   have eu':us.map (·.2)=ts.map key:=by rw [eu,AM,A7 (AS _)]
   have s10:=s9.trans (ae hL (.lst ys))
   have tu10:=tu.same (ae hL (.lst ys))
   have ey:=tu.1
   have keys:∀ u ∈ us,∃ x y:Int,u.2=[x,y]/\0<=x/\x<=y/\y < 40:=fun u hu=>by
    have:u.2 ∈ ts.map key:=by rw [<- eu']; exact BK hu
    obtain ⟨t,ht,e⟩:=Bc.mp this
    rw [<- e]
    exact vU (tA.bnd t ht)
   have nn:∀ u ∈ us,u.2 ≠ []:=fun u hu z=>by
    obtain ⟨a,b,e,_⟩:=keys u hu
    rw [z] at e
    cases e
   refine ⟨L,us,rfl,.inl (SqL.of (by rw [af,ey])),fun u hu=>⟨SqT.of (tu10.2 u hu),nn u hu⟩,fun L2 out hL2 po ps => ?_⟩
   have s11:=s10.trans (ae hL2 (.lst (out.map fun t => .ref t.1)))
   have tu11:=tu10.same (ae hL2 (.lst (out.map fun t => .ref t.1)))
   refine ⟨L2,_,rfl,.inl ⟨SqL.of af,fun l3 hl3 => ?_⟩⟩
   have s12:=s11.trans (ae hl3 (.tup (out.map fun t => .ref t.1)))
   have tu12:=tu11.same (ae hl3 (.tup (out.map fun t => .ref t.1)))
   refine ⟨(by show 2<=sizeLine; decide),fun b hb=>⟨_,rfl,(by show 2<=sizeLine; decide),fun p hp => ?_⟩⟩
   have sb:=ae hb (.tup [.int 40,.ref l3])
   have sp:=ae hp (.tup [.ref b,.int n3])
   have lu:us.length=ts.length:=by have:=congrArg List.length eu'; rwa [AM,AM] at this
   refine q p b n3 40 out _ (s8.trans (s12.trans (sb.trans sp))) af ⟨⟨l3,sp _ _ af,sp _ _ (sb _ _ af)⟩,fun u hu=>sp _ _ (sb _ _ (tu12.2 u (po.mem_iff.mp hu))),fun u hu=>keys u (po.mem_iff.mp hu),?_⟩ (by decide) (by decide) q2
   rw [po.length_eq]; omega
 refine ⟨(by show 0<=sizeLine; decide),fun l hl4 => ?_⟩
 have hl:=s3.free hl4
 have s5:=s3.trans (ae hl4 (.lst []))
 have tA:TO (upd H3 l (.lst [])) l (8 + mn) []:=⟨⟨af,fun t z=>(by cases z),fun t z=>(by cases z)⟩,fun t z=>(by cases z)⟩
 generalize upd H3 l (.lst [])=H5 at s5 tA
 refine ⟨_,rfl,_,_,rfl,rfl,8 + mn,rfl,by omega,by omega,bS (fun i σ H4=>(∃ (c6:Option V),σ=[some (.int n3),some (.int wy),some (.int mn),some (.int g),some (.ref l),none,c6,none,none])/\aB H H4/\∃ us,TO H4 l (8 + mn) us/\us.length<=10 * i/\(1<=i->7<=us.length)) ⟨⟨_,rfl⟩,s5,[],tA,by simp,by omega⟩ ?_ ?_⟩
 ·rintro i σ H6 hi ⟨⟨c6,rfl⟩,s6,us,tA6,lu,l7⟩
  have hi':(i:Int) < 8 + mn:=by omega
  refine ⟨_,rfl,.inl ⟨rfl,_,SqL.of tA6.1.at'⟩,_,rfl,_,_,rfl,rfl,_,rfl,_,_,rfl,rfl,0 + (i:Int) + 1,8 + mn,rfl,⟨by omega,by omega,by omega,by omega⟩,cJ (fun k ys H'=>aB H6 H'/\∃ vs,T3 H' ys vs/\vs.length=k/\(∀ t ∈ vs,0<=t.2.1/\t.2.1 < 8 + mn/\0<=t.2.2/\t.2.2 < 8 + mn)/\∀ t ∈ vs,t.2.1<=t.2.2) ⟨aB.refl _,[],⟨rfl,fun u hu=>by cases hu⟩,rfl,(fun u hu=>by cases hu),fun u hu=>by cases hu⟩ (small (by omega)) ?_ ?_⟩
  ·rintro k ys H' hk hy ⟨s',vs,tv,lv,bv,ov⟩ R1 R0 r1 r0
   refine bX ⟨_,rfl,_,rfl,(by show 2<=sizeLine; decide),fun tn htn=>r1 _ _ ⟨s'.trans (ae htn _),vs ++ [(tn,0 + (i:Int),0 + (i:Int) + 1 + (k:Int))],tv.add htn _ _,by rw [AQ,lv]; rfl,eY bv (by omega),fun x hx => ?_⟩⟩
   rcases A2.mp hx with z | z
   ·exact ov x z
   ·rw [AV] at z; subst z
    show 0 + (i:Int)<=0 + (i:Int) + 1 + (k:Int)
    omega
  ·rintro ys H7 hy ⟨s7,vs,tv,lv,bv,ov⟩ b hb
   have tA7:=tA6.same s7
   refine ⟨l,b,_,_,rfl,rfl,(ae hb _) _ _ tA7.1.at',af,?_,⟨_,rfl⟩,aB.bG ((s6.trans s7).trans (ae hb _)) hl _,us ++ vs,⟨tA7.1.ext tv hb bv,fun x hx => ?_⟩,by rw [AQ]; omega,fun _ => ?_⟩
   ·rw [tv.1,AM,AM]; exact small (by omega)
   ·rcases A2.mp hx with z | z
    ·exact tA7.2 x z
    ·exact ov x z
   ·rw [AQ]
    by_cases h:1<=i
    ·have:=l7 h; omega
    ·omega
 rintro σ H6 ⟨⟨c6,rfl⟩,s6,us,tA6,lu,l7⟩
 have l7':7<=us.length:=l7 (by omega)
 have lu':us.length<=100:=by omega
 refine ⟨_,rfl,g,rfl,by omega,by omega,bS (fun j σ H4=>(∃ (n:Int) (c7 c8:Option V),0<=n/\σ=[some (.int n),some (.int wy),some (.int mn),some (.int g),some (.ref l),none,c6,c7,c8])/\aB H H4/\∃ us,TO H4 l (8 + mn) us/\us.length<=100/\7<=us.length + j) ⟨⟨_,_,_,q2,rfl⟩,s6,us,tA6,lu',by omega⟩ ?_ ?_⟩
 ·rintro j σ H8 hj ⟨⟨n,c7,c8,n0,rfl⟩,s8,us,tA8,lu,l7⟩
  have lp:0 < us.length:=by omega
  obtain ⟨q8,v0,v1⟩:=dmN n0 (show (0:Int) < ((us.map fun t=>V.ref t.1).length:Int) by rw [AM]; omega)
  refine ⟨_,rfl,_,rfl,l,_,rfl,.inl (SqL.of tA8.1.at'),n,_,rfl,⟨by rw [AM]; omega,by rw [AM]; omega⟩,fun p hp=>⟨p,_,rfl,SqT.of af,rfl,_,_,rfl,_,_,rfl,rfl,?_⟩⟩
  have g9:=ae hp (.tup [.int (n / ((us.map fun t=>V.ref t.1).length:Int)),.int (n % ((us.map fun t=>V.ref t.1).length:Int))])
  have s9:=s8.trans g9
  have tA9:=tA8.same g9
  generalize upd H8 p (.tup [.int (n / ((us.map fun t=>V.ref t.1).length:Int)),.int (n % ((us.map fun t=>V.ref t.1).length:Int))])=H9 at s9 tA9
  generalize n / ((us.map fun t=>V.ref t.1).length:Int)=n8 at q8
  generalize n % ((us.map fun t=>V.ref t.1).length:Int)=at' at v0 v1
  rw [AM] at v1
  obtain ⟨pn,rfl⟩:∃ k:Nat,at'=k:=⟨at'.toNat,by omega⟩
  have ep:us[pn]? = some us[pn]:=AO (by omega)
  refine ⟨_,rfl,.inl ⟨rfl,_,SqL.of tA9.1.at'⟩,_,rfl,l,_,(pn:Int),pn,.ref us[pn].1,rfl,rfl,tA9.1.at',by omega,by omega,?_,by rw [AX,ep]; rfl,⟨_,_,_,q8,rfl⟩,aB.bG s9 hl _,us.eraseIdx pn,tA9.erase pn,?_,?_⟩
  ·have:=Ex (i:=(pn:Int)) (n:=(us.map fun u=>V.ref u.1).length) (by omega) (by rw [AM]; omega)
   simpa using this
  ·rw [DG,if_pos (by omega)]; omega
  ·rw [DG,if_pos (by omega)]; omega
 rintro σ H8 ⟨⟨n,c7,c8,n0,rfl⟩,s8,us,tA8,lu,l7⟩
 have row:=tA8.row
 refine ⟨_,rfl,_,_,rfl,rfl,_,rfl,l,_,rfl,.inl ⟨SqL.of tA8.1.at',fun l3 hl3=>⟨(by show 2<=sizeLine; decide),fun b hb=>⟨_,rfl,(by show 2<=sizeLine; decide),fun p hp => ?_⟩⟩⟩⟩
 have s12:=ae hl3 (.tup (us.map fun t => .ref t.1))
 have sb:=ae hb (.tup [.int (8 + mn),.ref l3])
 have sp:=ae hp (.tup [.ref b,.int n])
 refine q p b n (8 + mn) (us.map rw3) _ (s8.trans (s12.trans (sb.trans sp))) af ⟨⟨l3,sp _ _ af,?_⟩,fun u hu=>sp _ _ (sb _ _ (s12 _ _ (row u hu).1)),fun u hu=>(row u hu).2,?_⟩ (by omega) (by omega) n0
 ·rw [sj]; exact sp _ _ (sb _ _ af)
 ·rw [AM]; omega
end
open PySem L2
def aK (ns:List (List Int)) (k:Int):Int:=(ns.map fun p=>(p.count k:Int)).sum
abbrev yx:Sp:=fun vs H Q _=>∃ (r:Addr) (m k:Int) (ts:List (Addr × List Int)),vs=[.ref r,.int k]/\Wb H r m ts/\∀ H',aB H H'->Q (.int (aK (ts.map (·.2)) k)) H'
@[irreducible] def vV:Sp:=yx
theorem kO {vs:List V} {H:Hp} {Q:VK} {E:XK}:vV vs H Q E ↔ yx vs H Q E:=by
 delta vV
 exact CS
def both (ps:List Int) (p:List Int):Bool:=decide (p.getD 0 0 ∈ ps) && decide (p.getD 1 0 ∈ ps)
section
variable {P:Program} {w:World} {K:PySem.W.Frag} {mg:Str->Option Value} {base:Heap} {f:Addr} {fd:FuncData}
theorem ndTP:(["tie", "place"]:List Str).Nodup:=by decide +kernel
theorem scAt:aW ["web", "place"] ["web", "place"] (az sAt):=⟨rfl,rfl,rfl,by decide +kernel,rfl,by decide +kernel,by decide +kernel⟩
theorem okAt (F:Fun K "ties_at" "ties_at" sAt f fd) (ms:mg "sum" = none):cB P w K mg base CX0 1 f fd ["web", "place"] vV:=by
 refine F.ok scAt (fun vs H Q E h => ?_) (fun cdv A outer s H vs Q E hr h => ?_)
 ·obtain ⟨a,b,c,d,rfl,_⟩:=kO.mp h
  rfl
 obtain ⟨r,m,k,ts,rfl,W,q⟩:=kO.mp h
 obtain ⟨t,e1,e2⟩:=W.at'
 refine ⟨_,au (aS (aq (vn hr.hd) rfl ms zF (aa (cw ["tie", "place"] [none,some 1] rfl (nA (aN aM (pv 0) ai (fun _ _=>rfl))) rfl (fun _ _ _ _ _=>ak (i:=0) ndTP rfl (Or.inl rfl)) (fun _ _ _ _ _=>cC)
  (fun _ _ _ _ _=>nN CG DZ tY (pv 0) (aa (pv 1) ag))) ag))),?_⟩
 refine ⟨_,rfl,r,_,1,_,rfl,rfl,SqT.of e1,rfl,t,rfl,⟨_,SqT.of e2⟩,iR (xs:=ts.map fun u => .ref u.1) (fun i ys H'=>H'=H/\ys=((ts.take i).map fun u=>(u.2.count k:Int)).map V.int) ⟨rfl,rfl⟩ (by rw [AM]; exact small (by have:=W.len; omega)) (fun i ys H' _ z=>by rw [z.1]; exact SqT.of e2) ?_ ?_⟩
 ·rintro i x ys H3 hx hy ⟨rfl,rfl⟩ R1 R0 r1 r0
  obtain ⟨u,eu,rfl⟩:=item hx
  have hu:=W.tup u (AY eu)
  refine bX ⟨_,rfl,⟨_,_,rfl,hu⟩,_,rfl,u.1,u.2,k,rfl,rfl,hu,r1 _ _ ⟨rfl,?_⟩⟩
  rw [take_snoc (f:=fun u:Addr × List Int=>(u.2.count k:Int)) eu,A4]
  rfl
 ·rintro ys H3 hy ⟨rfl,rfl⟩ l hl
  rw [AM,A7 (AS _)]
  refine ⟨l,_,rfl,af,?_⟩
  have:=q _ (ae hl (.lst ((ts.map fun u=>(u.2.count k:Int)).map V.int)))
  unfold aK at this
  rw [CZ] at this
  exact this
end
def nb1 (p:List Int) (k:Int):List Int:=if p.getD 0 0=p.getD 1 0 then [] else if p.getD 0 0=k then [p.getD 1 0] else if p.getD 1 0=k then [p.getD 0 0] else []
theorem nY {a b k x:Int}:x ∈ nb1 [a,b] k ↔ a ≠ b/\((a=k/\x=b)\/(b=k/\x=a)):=by
 show x ∈ (if a=b then [] else if a=k then [b] else if b=k then [a] else []) ↔ _
 by_cases h1:a=b
 ·rw [if_pos h1]; simp [h1]
 ·rw [if_neg h1]
  by_cases h2:a=k
  ·rw [if_pos h2,AV]
   exact ⟨fun e=>⟨h1,.inl ⟨h2,e⟩⟩,fun ⟨_,h⟩=>h.elim (fun z=>z.2) fun z=>absurd (h2.trans z.1.symm) h1⟩
  ·rw [if_neg h2]
   by_cases h3:b=k
   ·rw [if_pos h3,AV]
    exact ⟨fun e=>⟨h1,.inr ⟨h3,e⟩⟩,fun ⟨_,h⟩=>h.elim (fun z=>absurd z.1 h2) fun z=>z.2⟩
   ·rw [if_neg h3]
    exact ⟨fun h=>(by cases h),fun ⟨_,h⟩=>h.elim (fun z=>absurd z.1 h2) fun z=>absurd z.1 h3⟩
def nbs (ns:List (List Int)) (k:Int):List Int:=ns.flatMap fun p=>nb1 p k
theorem dU {ns:List (List Int)} {k x:Int}:x ∈ nbs ns k ↔ ∃ p ∈ ns,x ∈ nb1 p k:=Fm
theorem mS {k:Int}:∀ {ns:List (List Int)},ns.Nodup->(∀ p ∈ ns,∃ a b:Int,p=[a,b]/\a<=b)->(nbs ns k).Nodup
 | [],_,_=>by simp [nbs]
 | p :: ns,nd,h=>by
  obtain ⟨np,nd'⟩:=B8.mp nd
  have ih:=mS (k:=k) nd' fun q hq=>h q (Bh _ hq)
  show (nb1 p k ++ nbs ns k).Nodup
  rw [Ee]
  refine ⟨?_,ih,fun x hx y hy e => ?_⟩
  ·unfold nb1; (repeat' split) <;> simp
  ·subst e
   obtain ⟨a,b,rfl,ab⟩:=h p Bg
   obtain ⟨q,hq,hy⟩:=dU.mp hy
   obtain ⟨c,d,rfl,cd⟩:=h q (Bh _ hq)
   rw [nY] at hx hy
   apply np
   obtain ⟨n1,hx⟩:=hx
   obtain ⟨n2,hy⟩:=hy
   have:a=c/\b=d:=by
    rcases hx with ⟨h1,h2⟩ | ⟨h1,h2⟩ <;> rcases hy with ⟨h3,h4⟩ | ⟨h3,h4⟩ <;> omega
   rw [this.1,this.2]
   exact hq
theorem fU {o:List Int} (h:o.Pairwise (· <= ·)) (nd:o.Nodup):o.Pairwise (· < ·):=by
 have:o.Pairwise (fun a b=>a<=b/\a ≠ b):=Hk h nd
 exact this.imp fun {a b} z=>by omega
theorem i4:∀ {l m:List Int},l.Pairwise (· < ·)->m.Pairwise (· < ·)->(∀ x,x ∈ l ↔ x ∈ m)->l=m
 | [],[],_,_,_=>rfl
 | [],b :: m,_,_,h=>by have:=(h b).mpr Bg; cases this
 | a :: l,[],_,_,h=>by have:=(h a).mp Bg; cases this
 | a :: l,b :: m,h1,h2,h=>by
  obtain ⟨a1,l1⟩:=D7.mp h1
  obtain ⟨b1,m1⟩:=D7.mp h2
  have e:a=b:=by
   rcases A6.mp ((h a).mp Bg) with z | z
   ·exact z
   rcases A6.mp ((h b).mpr Bg) with y | y
   ·exact y.symm
   have:=a1 b y
   have:=b1 a z
   omega
  subst e
  rw [i4 l1 m1 fun x=>⟨fun hx => ?_,fun hx => ?_⟩]
  ·rcases A6.mp ((h x).mp (Bh _ hx)) with z | z
   ·have:=a1 x hx; omega
   ·exact z
  ·rcases A6.mp ((h x).mpr (Bh _ hx)) with z | z
   ·have:=b1 x hx; omega
   ·exact z
structure Rows (H2 H':Hp) (as:List Addr) (vs:List (List Int)):Prop where
 len:vs.length=as.length
 row:∀ (j:Nat) a v,as[j]? = some a->vs[j]? = some v->H' a=some (.lst (v.map V.int))
 stay:∀ b u,b ∉ as->H2 b=some u->H' b=some u
theorem Rows.push {H2 H':Hp} {as:List Addr} {vs:List (List Int)} (R:Rows H2 H' as vs) (nd:as.Nodup) {j:Nat} {a:Addr} {v:List Int} (ea:as[j]? = some a) (ev:vs[j]? = some v) (x:Int) :
  Rows H2 (upd H' a (.lst ((v.map V.int) ++ [V.int x]))) as (vs.set j (v ++ [x])):=by
 have hj:j < vs.length:=(AU.mp ev).1
 refine ⟨by rw [C7]; exact R.len,fun i b u eb eu => ?_,fun b u hb e => ?_⟩
 ·by_cases h:i=j
  ·subst h
   rw [ea] at eb; cases eb
   rw [BX hj] at eu; cases eu
   rw [af,A4]; rfl
  ·rw [Cc (BN h)] at eu
   have ne:b ≠ a:=fun z=>by
    subst z
    have hi:i < as.length:=(AU.mp eb).1
    exact h ((Fc hi nd).mp (eb.trans ea.symm))
   rw [aE ne]
   exact R.row i b u eb eu
 ·have ne:b ≠ a:=fun z=>hb (z ▸ AY ea)
  rw [aE ne]
  exact R.stay b u hb e
def zN (vs:List (List Int)) (m:Nat) (ns:List (List Int)):Prop:=vs.length=m/\∀ (j:Nat) v,vs[j]? = some v->v=nbs ns (j:Int)
theorem so (k:Int):∀ ns:List (List Int),(nbs ns k).length<=ns.length
 | []=>by simp [nbs]
 | p :: ns=>by
  show (nb1 p k ++ nbs ns k).length<=_
  have:=so k ns
  have h1:(nb1 p k).length<=1:=by unfold nb1; (repeat' split) <;> simp
  rw [AQ,Bn]
  omega
theorem pL (ns:List (List Int)) (p:List Int) (k:Int):nbs (ns ++ [p]) k=nbs ns k ++ nb1 p k:=by unfold nbs; simp
abbrev pM:Sp:=fun vs H Q _=>∃ (r:Addr) (m:Int) (ts:List (Addr × List Int)),vs=[.ref r]/\Wb H r m ts/\0<=m/\m<=1000/\∀ (l:Addr) (H':Hp) (os:List (Addr × List Int)),aB H H'->H' l=some (.lst (os.map fun u => .ref u.1))->os.length=m.toNat->(∀ u ∈ os,H' u.1=some (.lst (u.2.map V.int))) →
 (∀ (j:Nat) u,os[j]? = some u->u.2.Pairwise (· < ·)/\∀ x,x ∈ u.2 ↔ x ∈ nbs (ts.map (·.2)) (j:Int))->Q (.ref l) H'
@[irreducible] def gD:Sp:=pM
theorem dW {vs:List V} {H:Hp} {Q:VK} {E:XK}:gD vs H Q E ↔ pM vs H Q E:=by
 delta gD
 exact CS
theorem lK {X:Cx} {K:PySem.W.Frag} (h:X.K=K:=by rfl):bJ X (.builtin "sorted") (fun xs H Q=>∃ (p:Addr) (ns:List Int),xs=[.ref p]/\(SqL K H p (ns.map V.int)\/SqT K H p (ns.map V.int))/\∀ (l:Addr) (out:List Int),H l=none->out.Perm ns->out.Pairwise (· <= ·)->Q (.ref l) (upd H l (.lst (out.map V.int)))):=by
 subst h; exact il
section
variable {P:Program} {w:World} {K:PySem.W.Frag} {mg:Str->Option Value} {base:Heap} {f:Addr} {fd:FuncData}
theorem ndPl:(["place"]:List Str).Nodup:=by decide +kernel
theorem ndRo:(["row"]:List Str).Nodup:=by decide +kernel
theorem nZ:aW ["web", "near", "tie"] ["web"] (az vS):=⟨rfl,rfl,rfl,by decide +kernel,rfl,by decide +kernel,by decide +kernel⟩
theorem xR (F:Fun K "near_lists" "near_lists" vS f fd) (mr:mg "range" = none) (mst:mg "set" = none) (mso:mg "sorted" = none):cB P w K mg base CX0 1 f fd ["web"] gD:=by
 refine F.ok nZ (fun vs H Q E h => ?_) (fun cdv A outer s H vs Q E hr h => ?_)
 ·obtain ⟨a,b,c,rfl,_⟩:=dW.mp h
  rfl
 obtain ⟨r,m,ts,rfl,W,m0,m1,q⟩:=dW.mp h
 obtain ⟨t,e1,e2⟩:=W.at'
 refine ⟨_,ah (dH (i:=1) ["place"] [none] rfl nZ.nd rfl rfl (bI rfl mr (aa (aN aM (pv 0) ai (fun _ _=>rfl)) ag)) rfl (fun _ _ _ _ _=>ak (i:=0) ndPl rfl (Or.inl rfl)) (fun _ _ _ _ _=>cC) (fun _ _ _ _ _=>cQ ag))
  (ah (bV Bw rfl (cj (aq (fN (w:=w) rfl hr.hd) rfl mso cZ (aa (aI (ko (w:=w) rfl hr.hd hr.units) rfl mst PySem.Pv.boot_set (aa (aN aM (pv 0) ai (fun _ _=>rfl)) ag)) ag))) (ak (i:=2) nZ.nd rfl (Or.inl rfl))
   (au (bL (aO jR (aN aM (pv 2) ai (fun _ _=>rfl)) (aN aM (pv 2) ai (fun _ _=>rfl)) (aR _))
    (ah (bR (dy Bm BG BH bT (aN cH (pv 1) (aN aM (pv 2) ai (fun _ _=>rfl)) (fun _ _=>rfl)) (aa (aN aM (pv 2) ai (fun _ _=>rfl)) ag)))
    (au (bR (dy Bm BG BH bT (aN cH (pv 1) (aN aM (pv 2) ai (fun _ _=>rfl)) (fun _ _=>rfl)) (aa (aN aM (pv 2) ai (fun _ _=>rfl)) ag))))) aV)))
  (au (aS (cw ["row"] [none] rfl (cj (pv 1)) rfl (fun _ _ _ _ _=>ak (i:=0) ndRo rfl (Or.inl rfl)) (fun _ _ _ _ _=>cC) (fun _ _ _ _ _=>aq (lK (K:=K)) rfl mso cZ (aa (pv 0) ag)))))),?_⟩
 refine ⟨_,rfl,r,_,0,_,rfl,rfl,SqT.of e1,rfl,m,rfl,by omega,by omega,cJ (lo:=0) (n:=m.toNat) (fun i ys H'=>aB H H'/\∃ as:List Addr,ys=as.map V.ref/\as.length=i/\as.Nodup/\∀ a ∈ as,H a=none/\H' a=some (.lst [])) ⟨aB.refl _,[],rfl,rfl,Ej,fun a ha=>by cases ha⟩ (small (by omega)) ?_ ?_⟩
 ·rintro i ys H3 hi hy ⟨s3,as,rfl,la,nd,ha⟩ R1 R0 r1 r0
  refine bX ⟨(by show 0<=sizeLine; decide),fun p hp=>r1 _ _ ⟨s3.trans (ae hp _),as ++ [p],by rw [A4]; rfl,by rw [AQ,la]; rfl,?_,fun a m' => ?_⟩⟩
  ·rw [Ee]
   refine ⟨nd,B8.mpr ⟨by simp,Ej⟩,fun x hx y hy e => ?_⟩
   rw [AV] at hy
   subst hy; subst e
   rw [(ha x hx).2] at hp; cases hp
  ·rcases A2.mp m' with z | z
   ·exact ⟨(ha a z).1,(ae hp _) _ _ (ha a z).2⟩
   ·rw [AV] at z
    subst z
    refine ⟨?_,af⟩
    cases e:H a with
    | none=>rfl
    | some o=>rw [s3 _ _ e] at hp; cases hp
 rintro ys H3 hy ⟨s3,as,rfl,la,nd,ha⟩ l hl
 have s1:=s3.trans (ae hl (.lst (as.map V.ref)))
 have nl:l ∉ as:=fun z=>by rw [(ha l z).2] at hl; cases hl
 have ha1:∀ a ∈ as,upd H3 l (.lst (as.map V.ref)) a=some (.lst []):=fun a z=>(ae hl _) _ _ (ha a z).2
 have hl1:upd H3 l (.lst (as.map V.ref)) l=some (.lst (as.map V.ref)):=af
 generalize upd H3 l (.lst (as.map V.ref))=H1 at s1 ha1 hl1
 have tsl:=W.len
 refine ⟨_,rfl,r,_,1,_,rfl,rfl,SqT.of (s1 _ _ e1),rfl,t,ts,rfl,.inr (SqT.of (s1 _ _ e2)),fun u hu=>SqT.of (s1 _ _ (W.tup u hu)),by omega,fun a us hna mu ndu cov hlu => ?_⟩
 have sa:=ae hna (d8 w a (us.map fun t => .ref t.1))
 refine ⟨a,us,rfl,af,fun u hu=>⟨SqT.of (sa _ _ (s1 _ _ (W.tup u (mu u hu)))),fun z => ?_⟩,by omega,fun l2 out hl2 pm ps => ?_⟩
 ·obtain ⟨x,y,e,_⟩:=W.pr u (mu u hu)
  rw [z] at e; cases e
 have s2':=sa.trans (ae hl2 (.lst (out.map fun t => .ref t.1)))
 have s2:=s1.trans s2'
 have nl2:l2 ∉ as:=fun z=>by rw [sa _ _ (ha1 l2 z)] at hl2; cases hl2
 have h2l2:upd (upd H1 a (d8 w a (us.map fun t => .ref t.1))) l2 (.lst (out.map fun t => .ref t.1)) l2=some (.lst (out.map fun t => .ref t.1)):=af
 generalize upd (upd H1 a (d8 w a (us.map fun t => .ref t.1))) l2 (.lst (out.map fun t => .ref t.1))=H2 at s2 s2' h2l2
 have old:∀ {b:Addr} {o:HO},H b=some o->b ∉ as:=fun {b o} e z=>by rw [(ha b z).1] at e; cases e
 refine ⟨l2,rfl,⟨_,SqL.of h2l2⟩,fJ (xs:=out.map fun u => .ref u.1) (fun i σ H'=>(∃ c,σ=[some (.ref r),some (.ref l),c])/\∃ vs,Rows H2 H' as vs/\zN vs m.toNat ((out.take i).map (·.2))) ⟨⟨_,rfl⟩,List.replicate m.toNat [],⟨by rw [CU,la],fun j b v eb ev => ?_,fun b u _ e=>e⟩,CU ..,fun j v ev => ?_⟩ (fun i σ H' _ z => ?_) ?_ ?_⟩
 ·rw [D2] at ev
  split at ev
  ·cases ev
   exact s2' _ _ (ha1 b (AY eb))
  ·cases ev
 ·rw [D2] at ev
  split at ev
  ·cases ev; rfl
  ·cases ev
 ·obtain ⟨_,vs,R,_⟩:=z
  exact SqL.of (R.stay l2 _ nl2 h2l2)
 ·rintro i x σ H' hx ⟨⟨c,rfl⟩,vs,R,lv,RO⟩
  obtain ⟨u,eu,rfl⟩:=item hx
  have mts:=mu u (pm.mem_iff.mp (AY eu))
  obtain ⟨x,y,e3,x0,xy,ym⟩:=W.pr u mts
  have hu0:=W.tup u mts
  have hu':H' u.1=some (.tup [.int x,.int y]):=by
   rw [e3] at hu0
   exact R.stay _ _ (old hu0) (s2 _ _ hu0)
  have tk:(out.take (i + 1)).map (·.2)=(out.take i).map (·.2) ++ [[x,y]]:=by rw [take_snoc (f:=fun u:Addr × List Int=>u.2) eu,e3]
  obtain ⟨xn,rfl⟩:∃ n:Nat,x=n:=⟨x.toNat,by omega⟩
  obtain ⟨yn,rfl⟩:∃ n:Nat,y=n:=⟨y.toNat,by omega⟩
  have hlst:=R.stay l _ nl (s2' _ _ hl1)
  have axn:as[xn]? = some as[xn]:=AO (by omega)
  have ayn:as[yn]? = some as[yn]:=AO (by omega)
  have vxn:vs[xn]? = some vs[xn]:=AO (by omega)
  have vyn:vs[yn]? = some vs[yn]:=AO (by omega)
  have at1:atI (as.map V.ref) (xn:Int)=some (.ref as[xn]):=cG (by rw [AX,axn]; rfl)
  have at2:atI (as.map V.ref) (yn:Int)=some (.ref as[yn]):=cG (by rw [AX,ayn]; rfl)
  have ll:∀ (j:Nat) v,vs[j]? = some v->v.length<=200:=fun j v ev=>by
   rw [RO j v ev]
   refine BF (so _ _) ?_
   rw [AM,BL]
   have:=pm.length_eq
   omega
  refine ⟨_,rfl,u.1,_,0,_,rfl,rfl,SqT.of hu',rfl,_,rfl,u.1,_,1,_,rfl,rfl,SqT.of hu',rfl,rfl,_,rfl,?_⟩
  by_cases hxy:xn=yn
  ·subst hxy
   refine jX rfl ⟨⟨_,rfl⟩,vs,R,lv,fun j v ev => ?_⟩
   have nil:nb1 [(xn:Int),(xn:Int)] j=[]:=by unfold nb1; simp
   rw [tk,pL,nil,BM]
   exact RO j v ev
  ·have hd:decide (V.int (xn:Int)=V.int (yn:Int))=false:=decide_eq_false fun z=>hxy (by injection z with z; omega)
   rw [hd]
   have rowx:=R.row xn _ _ axn vxn
   have R1:=R.push nd axn vxn (yn:Int)
   have vyn':(vs.set xn (vs[xn] ++ [(yn:Int)]))[yn]? = some vs[yn]:=by rw [Cc hxy]; exact vyn
   have rowy:=R1.row yn _ _ ayn vyn'
   have R2:=R1.push nd ayn vyn' (xn:Int)
   have hu2:=R1.stay _ _ (old hu0) (s2 _ _ hu0)
   rw [e3] at hu2
   have hlst2:=R1.stay l _ nl (s2' _ _ hl1)
   refine bX ⟨_,rfl,_,rfl,u.1,_,0,_,rfl,rfl,SqT.of hu',rfl,l,_,(xn:Int),_,rfl,rfl,SqL.of hlst,at1,.inl ⟨rfl,_,SqL.of rowx⟩,_,rfl,u.1,_,1,_,rfl,rfl,SqT.of hu',rfl,as[xn],_,_,rfl,rfl,rowx,(by rw [AM]; exact cf (by have:=ll _ _ vxn; omega)),?_⟩
   refine ⟨_,rfl,_,rfl,u.1,_,1,_,rfl,rfl,SqT.of hu2,rfl,l,_,(yn:Int),_,rfl,rfl,SqL.of hlst2,at2,.inl ⟨rfl,_,SqL.of rowy⟩,_,rfl,u.1,_,0,_,rfl,rfl,SqT.of hu2,rfl,as[yn],_,_,rfl,rfl,rowy,(by rw [AM]; exact cf (by have:=ll _ _ vyn; omega)),?_⟩
   refine ⟨⟨_,rfl⟩,_,R2,by rw [C7,C7]; exact lv,fun j v ev => ?_⟩
   rw [tk,pL]
   by_cases jy:yn=j
   ·subst jy
    rw [BX (by rw [C7]; omega)] at ev
    cases ev
    have e4:nb1 [(xn:Int),(yn:Int)] yn=[(xn:Int)]:=by
     show (if (xn:Int)=yn then [] else if (xn:Int)=yn then [(yn:Int)] else if (yn:Int)=yn then [(xn:Int)] else [])=_
     rw [if_neg (by omega),if_neg (by omega),if_pos rfl]
    rw [e4, <- RO yn _ vyn]
   ·rw [Cc jy] at ev
    by_cases jx:xn=j
    ·subst jx
     rw [BX (by omega)] at ev
     cases ev
     have e4:nb1 [(xn:Int),(yn:Int)] xn=[(yn:Int)]:=by
      show (if (xn:Int)=yn then [] else if (xn:Int)=xn then [(yn:Int)] else if (yn:Int)=xn then [(xn:Int)] else [])=_
      rw [if_neg (by omega),if_pos rfl]
     rw [e4, <- RO xn _ vxn]
    ·rw [Cc jx] at ev
     have e4:nb1 [(xn:Int),(yn:Int)] j=[]:=by
      show (if (xn:Int)=yn then [] else if (xn:Int)=j then [(yn:Int)] else if (yn:Int)=j then [(xn:Int)] else [])=_
      rw [if_neg (by omega),if_neg (by omega),if_neg (by omega)]
     rw [e4,BM]
     exact RO j v ev
 ·rintro σ H' ⟨⟨c,rfl⟩,vs,R,lv,RO⟩
  have hlst:=R.stay l _ nl (s2' _ _ hl1)
  rw [AM,A7 (AS _)] at RO
  have sH':aB H H':=fun b o e=>R.stay b o (old e) (s2 _ _ e)
  have kns:(out.map (·.2)).Nodup:=((pm.map (·.2)).nodup_iff).mpr ndu
  have mns:∀ x,x ∈ out.map (·.2) ↔ x ∈ ts.map (·.2):=fun x=>by
   rw [(pm.map (·.2)).mem_iff]
   constructor
   ·intro hx
    obtain ⟨u,hu,rfl⟩:=Bc.mp hx
    exact Bc.mpr ⟨u,mu u hu,rfl⟩
   ·intro hx
    obtain ⟨u,hu,rfl⟩:=Bc.mp hx
    exact cov u hu
  have pns:∀ p ∈ out.map (·.2),∃ a b:Int,p=[a,b]/\a<=b:=fun p hp=>by
   obtain ⟨u,hu,rfl⟩:=Bc.mp ((mns p).mp hp)
   obtain ⟨a,b,e,_,ab,_⟩:=W.pr u hu
   exact ⟨a,b,e,ab⟩
  have nbm:∀ k x,x ∈ nbs (out.map (·.2)) k ↔ x ∈ nbs (ts.map (·.2)) k:=fun k x=>by
   rw [dU,dU]
   exact ⟨fun ⟨p,hp,z⟩=>⟨p,(mns p).mp hp,z⟩,fun ⟨p,hp,z⟩=>⟨p,(mns p).mpr hp,z⟩⟩
  refine ⟨_,rfl,l,rfl,⟨_,SqL.of hlst⟩,cq (xs:=as.map V.ref) (fun i ys H5=>aB H' H5/\∃ os:List (Addr × List Int),ys=(os.map fun u=>V.ref u.1)/\os.length=i/\(∀ u ∈ os,H5 u.1=some (.lst (u.2.map V.int)))/\∀ (j:Nat) u v,os[j]? = some u->vs[j]? = some v->u.2.Perm v/\u.2.Pairwise (· <= ·)) ⟨aB.refl _,[],rfl,rfl,fun u hu=>(by cases hu),fun j u v eu=>by simp at eu⟩ (by rw [AM]; exact small (by omega)) (fun i ys H5 _ z=>SqL.of (z.1 _ _ hlst)) ?_ ?_⟩
  ·rintro i x ys H5 hx hy ⟨s5,os,rfl,lo,ho,po⟩ R1 R0 r1 r0
   rw [AX] at hx
   cases ea:as[i]? with
   | none=>rw [ea] at hx; cases hx
   | some a5 =>
    rw [ea] at hx
    cases hx
    have hi:i < as.length:=(AU.mp ea).1
    have ev:vs[i]? = some vs[i]:=AO (by omega)
    have rowa:=s5 _ _ (R.row i _ _ ea ev)
    refine bX ⟨_,rfl,a5,vs[i],rfl,.inl (SqL.of rowa),fun l5 o5 hl5 pm5 ps5=>r1 _ _ ⟨s5.trans (ae hl5 _),os ++ [(l5,o5)],by rw [A4]; rfl,by rw [AQ,lo]; rfl,fun u hu => ?_,fun j u v eu ev' => ?_⟩⟩
    ·rcases A2.mp hu with z | z
     ·exact (ae hl5 _) _ _ (ho u z)
     ·rw [AV] at z; subst z; exact af
    ·by_cases hj:j < os.length
     ·rw [Bf hj] at eu
      exact po j u v eu ev'
     ·have hj2:j=i:=by
       have:=(AU.mp eu).1
       rw [AQ,BV] at this
       omega
      subst hj2
      rw [Bk (by omega),show j - os.length=0 by omega] at eu
      cases eu
      rw [ev] at ev'; cases ev'
      exact ⟨pm5,ps5⟩
  ·rintro ys H5 hy ⟨s5,os,rfl,lo,ho,po⟩ l5 hl5
   rw [AM] at lo
   have s6:=ae hl5 (.lst (os.map fun u=>V.ref u.1))
   refine q l5 _ os (sH'.trans (s5.trans s6)) af (by omega) (fun u hu=>s6 _ _ (ho u hu)) fun j u eu => ?_
   have hj:j < os.length:=(AU.mp eu).1
   have ev:vs[j]? = some vs[j]:=AO (by omega)
   obtain ⟨p1,p2⟩:=po j u _ eu ev
   have e5:=RO j _ ev
   rw [e5] at p1
   refine ⟨fU p2 (p1.nodup_iff.mpr (mS kns pns)),fun x => ?_⟩
   rw [p1.mem_iff]
   exact nbm _ _
end
def Adj (ns:List (List Int)) (u v:Int):Prop:=v ∈ nbs ns u
inductive Con (ns:List (List Int)):Int->Int->Prop
 | refl (u:Int):Con ns u u
 | step {u v w:Int}:Con ns u v->Adj ns v w->Con ns u w
def Ok (m:Nat) (ns:List (List Int)):Prop:=∀ p ∈ ns,∃ a b:Int,p=[a,b]/\0<=a/\a<=b/\b < m
theorem df {m:Nat} {ns:List (List Int)} (O:Ok m ns) {u v:Int}:Adj ns u v ↔ ∃ a b:Int,[a,b] ∈ ns/\a ≠ b/\((a=u/\v=b)\/(b=u/\v=a)):=by
 unfold Adj
 rw [dU]
 constructor
 ·rintro ⟨p,hp,h⟩
  obtain ⟨a,b,rfl,_⟩:=O p hp
  exact ⟨a,b,hp,nY.mp h⟩
 ·rintro ⟨a,b,hp,h⟩
  exact ⟨[a,b],hp,nY.mpr h⟩
theorem iB {m:Nat} {ns:List (List Int)} (O:Ok m ns) {u v:Int} (h:Adj ns u v):Adj ns v u:=by
 rw [df O] at *
 obtain ⟨a,b,hp,ne,h⟩:=h
 refine ⟨a,b,hp,ne,?_⟩
 rcases h with ⟨h1,h2⟩ | ⟨h1,h2⟩
 ·exact .inr ⟨h2.symm,h1.symm⟩
 ·exact .inl ⟨h2.symm,h1.symm⟩
theorem jF {m:Nat} {ns:List (List Int)} (O:Ok m ns) {u v:Int} (h:Adj ns u v):(0<=u/\u < m)/\0<=v/\v < m:=by
 rw [df O] at h
 obtain ⟨a,b,hp,ne,h⟩:=h
 obtain ⟨a',b',e,h1,h2,h3⟩:=O _ hp
 injection e with e1 e2
 injection e2 with e2 _
 subst e1; subst e2
 rcases h with ⟨h4,h5⟩ | ⟨h4,h5⟩ <;> subst h4 <;> subst h5 <;> omega
theorem Con.trans {ns:List (List Int)} {u v w:Int} (h:Con ns u v) (h2:Con ns v w):Con ns u w:=by
 induction h2 with
 | refl=>exact h
 | step _ a ih=>exact .step ih a
theorem Con.one {ns:List (List Int)} {u v:Int} (h:Adj ns u v):Con ns u v := .step (.refl u) h
theorem Con.symm {m:Nat} {ns:List (List Int)} (O:Ok m ns) {u v:Int} (h:Con ns u v):Con ns v u:=by
 induction h with
 | refl=>exact .refl _
 | step _ a ih=>exact (Con.one (iB O a)).trans ih
theorem Con.rng {m:Nat} {ns:List (List Int)} (O:Ok m ns) {u v:Int} (h:Con ns u v) (hu:0<=u/\u < m):0<=v/\v < m:=by
 induction h with
 | refl=>exact hu
 | step _ a _=>exact (jF O a).2
theorem Con.closed {ns:List (List Int)} {u v:Int} (h:Con ns u v) {R:Int->Prop} (hu:R u) (hc:∀ x y,R x->Adj ns x y->R y):R v:=by
 induction h with
 | refl=>exact hu
 | step _ a ih=>exact hc _ _ ih a
def rgI (m:Nat):List Int:=(List.range m).map fun i:Nat=>(i:Int)
theorem dX {m:Nat} {v:Int}:v ∈ rgI m ↔ 0<=v/\v < m:=by
 unfold rgI
 rw [Bc]
 constructor
 ·rintro ⟨i,hi,rfl⟩
  rw [BP] at hi
  omega
 ·intro h
  exact ⟨v.toNat,BP.mpr (by omega),by omega⟩
theorem cU {R:List Int} {m:Nat} (nd:R.Nodup) (h:∀ v ∈ R,0<=v/\v < m):R.length<=m:=by
 have:=B1 nd (l₂:=rgI m) fun v hv=>dX.mpr (h v hv)
 unfold rgI at this
 rw [AM,Ci] at this
 exact this
theorem fz {R:List Int} {v:Int} (nd:R.Nodup) (h:v ∉ R):(R ++ [v]).Nodup:=by
 rw [Ee]
 exact ⟨nd,B8.mpr ⟨by simp,Ej⟩,fun x hx y hy e=>h (by rw [AV] at hy; subst hy; subst e; exact hx)⟩
structure i5 (H:Hp) (n:Addr) (m:Nat) (ns:List (List Int)) (os:List (Addr × List Int)):Prop where
 at':H n=some (.lst (os.map fun u => .ref u.1))
 len:os.length=m
 row:∀ u ∈ os,H u.1=some (.lst (u.2.map V.int))
 is:∀ (j:Nat) u,os[j]? = some u->∀ x,x ∈ u.2 ↔ x ∈ nbs ns (j:Int)
theorem i5.same {H H':Hp} {n:Addr} {m:Nat} {ns:List (List Int)} {os:List (Addr × List Int)} (h:i5 H n m ns os) (s:aB H H'):i5 H' n m ns os:=⟨s _ _ h.at',h.len,fun u hu=>s _ _ (h.row u hu),h.is⟩
def uj (H:Hp) (d:Addr):Nat:=match H d with | some (.dK kvs)=>kvs.length | _=>0
def xS (H:Hp) (y:Addr):Nat:=match H y with | some (.lst xs)=>xs.length | _=>0
open PySem L2
section
variable {P:Program} {w:World} {K:PySem.W.Frag} {mg:Str->Option Value} {base:Heap} {f T:Addr} {fd:FuncData}
def vW:Sp:=fun vs H Q _=>∃ a b:Int,vs=[.int a,.int b]/\∀ t,H t=none->Q (.ref t) (upd H t (.tup ((nrm a b).map V.int)))
theorem AH:aW ["one", "other"] ["one", "other"] (az AE):=⟨rfl,rfl,rfl,by decide +kernel,rfl,by decide +kernel,by decide +kernel⟩
theorem AI (F:Fun K "tie_of" "tie_of" AE f fd) (mx:mg "max" = none) (mn:mg "min" = none):cB P w K mg base CX0 1 f fd ["one", "other"] vW:=by
 refine F.ok AH (fun vs H Q E h => ?_) (fun cdv A outer s H vs Q E hr h => ?_)
 ·obtain ⟨a,b,rfl,_⟩:=h
  rfl
 obtain ⟨a,b,rfl,q⟩:=h
 refine ⟨_,au (aS (bD (aa (aq (gn rfl) rfl mn d9 (aa (pv 0) (aa (pv 1) ag))) (aa (aq (gk rfl) rfl mx i3 (aa (pv 0) (aa (pv 1) ag))) ag)))),?_⟩
 exact ⟨_,rfl,_,rfl,_,_,rfl,_,rfl,_,rfl,_,_,rfl,(by show 2<=sizeLine; decide),fun t ht=>q t ht⟩
abbrev pN:Sp:=fun vs H Q _=>∃ (r:Addr) (m a b:Int) (ts:List (Addr × List Int)),vs=[.ref r,.int a,.int b]/\Wb H r m ts/\∀ H',aB H H'->Q (.int ((ts.map (·.2)).count (nrm a b):Nat)) H'
@[irreducible] def dY:Sp:=pN
theorem cv {vs:List V} {H:Hp} {Q:VK} {E:XK}:dY vs H Q E ↔ pN vs H Q E:=by
 delta dY
 exact CS
theorem xT:aW ["web", "one", "other"] ["web", "one", "other"] (az vT):=⟨rfl,rfl,rfl,by decide +kernel,rfl,by decide +kernel,by decide +kernel⟩
theorem xU (F:Fun K "tied_times" "tied_times" vT f fd) (cT:Cal P w K mg base 1 "tie_of" ["one", "other"] vW):cB P w K mg base CX0 2 f fd ["web", "one", "other"] dY:=by
 refine F.ok xT (fun vs H Q E h => ?_) (fun cdv A outer s H vs Q E hr h => ?_)
 ·obtain ⟨a,b,c,d,e,rfl,_⟩:=cv.mp h
  rfl
 obtain ⟨r,m,a,b,ts,rfl,W,q⟩:=cv.mp h
 obtain ⟨t,e1,e2⟩:=W.at'
 refine ⟨_,au (aS (nN CG DZ (ku (hu8 hr)) (aN aM (pv 0) ai (fun _ _=>rfl)) (aa (bz cT hr (by decide) rfl (aa (pv 1) (aa (pv 2) ag))) ag))),?_⟩
 refine ⟨_,rfl,r,_,1,_,rfl,rfl,SqT.of e1,rfl,⟨_,_,rfl,e2⟩,_,rfl,_,rfl,a,b,rfl,fun x hx => ?_⟩
 have s1:=ae hx (.tup ((nrm a b).map V.int))
 exact ⟨t,x,ts,nrm a b,rfl,rfl,s1 _ _ e2,fun u hu=>s1 _ _ (W.tup u hu),af,q _ s1⟩
end
open PySem L2
inductive Wk (R:Int->Int->Prop) (s:Int):Nat->Int->Prop
 | z:Wk R s 0 s
 | st {n:Nat} {p o:Int}:Wk R s n p->R p o->Wk R s (n + 1) o
def Dst (R:Int->Int->Prop) (s:Int) (n:Nat) (v:Int):Prop:=Wk R s n v/\∀ k,k < n->¬ Wk R s k v
theorem Dst.uniq {R:Int->Int->Prop} {s:Int} {a b:Nat} {v:Int} (h1:Dst R s a v) (h2:Dst R s b v):a=b:=by
 rcases Ef a b with h | h | h
 ·exact absurd h1.1 (h2.2 a h)
 ·exact h
 ·exact absurd h2.1 (h1.2 b h)
theorem Wk.zero {R:Int->Int->Prop} {s v:Int} (h:Wk R s 0 v):v=s:=by cases h; rfl
def stp (ns:List (List Int)) (s g p o:Int):Prop:=Adj ns p o/\(p ≠ s\/o ≠ g)
theorem Wk.rng {m:Nat} {ns:List (List Int)} (O:Ok m ns) {s g:Int} (hs:0<=s/\s < m) {n:Nat} {v:Int} (h:Wk (stp ns s g) s n v):0<=v/\v < m:=by
 cases h with
 | z=>exact hs
 | st _ r=>exact (jF O r.1).2
def mp (C:List (Int × V)):List (Key × V):=C.map fun e=>(Sum.inl e.1,e.2)
theorem oa (v:Int):∀ C:List (Int × V),(v ∉ C.map (·.1)/\cy (mp C) (Sum.inl v)=none)\/∃ x,(v,x) ∈ C/\cy (mp C) (Sum.inl v)=some x
 | [] => .inl ⟨by simp,rfl⟩
 | e :: C=>by
  by_cases h:e.1=v
  ·refine .inr ⟨e.2,by rw [<- h]; exact Bg,?_⟩
   show cy ((Sum.inl e.1,e.2) :: mp C) (Sum.inl v)=some e.2
   rw [bZ (by rw [h])]
  ·have en:cy (mp (e :: C)) (Sum.inl v)=cy (mp C) (Sum.inl v):=by
    show cy ((Sum.inl e.1,e.2) :: mp C) (Sum.inl v)=_
    rw [cb (fun z=>h (by injection z))]
   rw [en]
   rcases oa v C with ⟨h1,h2⟩ | ⟨x,h1,h2⟩
   ·exact .inl ⟨by rw [Bj,A6]; exact fun z=>z.elim (fun y=>h y.symm) h1,h2⟩
   ·exact .inr ⟨x,Bh _ h1,h2⟩
theorem sq (v:Int) (C:List (Int × V)):(cy (mp C) (Sum.inl v)).isSome=decide (v ∈ C.map (·.1)):=by
 rcases oa v C with ⟨h1,h2⟩ | ⟨x,h1,h2⟩
 ·rw [h2,decide_eq_false h1]; rfl
 ·rw [h2,decide_eq_true (BK (f:=(·.1)) h1)]; rfl
theorem zO {v:Int} {C:List (Int × V)} (h:v ∈ C.map (·.1)):∃ x,(v,x) ∈ C/\cy (mp C) (Sum.inl v)=some x:=by
 rcases oa v C with ⟨h1,_⟩ | z
 ·exact absurd h h1
 ·exact z
theorem vX {v:Int} {C:List (Int × V)} (h:v ∉ C.map (·.1)) (x:V):putK (mp C) (Sum.inl v) x=mp (C ++ [(v,x)]):=by
 rcases oa v C with ⟨_,h2⟩ | ⟨x,h1,_⟩
 ·rw [vq _ h2]; unfold mp; rw [A4]; rfl
 ·exact absurd (BK (f:=(·.1)) h1) h
theorem rf (C:List (Int × V)):(mp C).length=C.length:=AM _
structure Rnd (ns:List (List Int)) (s g:Int) (d:Nat) (C:List (Int × V)) (Y F:List Int):Prop where
 nd:(C.map (·.1)).Nodup
 ent:∀ e ∈ C,(e.1=s/\e.2 = .non)\/∃ (p:Int) (n:Nat),e.2 = .int p/\Dst (stp ns s g) s n p/\Dst (stp ns s g) s (n + 1) e.1/\stp ns s g p e.1
 key:∀ v,v ∈ C.map (·.1) ↔ (∃ n,n<=d/\Wk (stp ns s g) s n v)\/v ∈ F
 rdy:∀ v,v ∈ Y ↔ Dst (stp ns s g) s d v
 fur:∀ v ∈ F,Dst (stp ns s g) s (d + 1) v
theorem Rnd.start (ns:List (List Int)) (s g:Int):Rnd ns s g 0 [(s,.non)] [s] []:=by
 refine ⟨B8.mpr ⟨by simp,Ej⟩,fun e he => ?_,fun v => ?_,fun v => ?_,fun v h=>by cases h⟩
 ·rw [AV] at he; subst he; exact .inl ⟨rfl,rfl⟩
 ·show v ∈ [s] ↔ _
  rw [AV]
  refine ⟨fun h => .inl ⟨0,AS _,h ▸ .z⟩,fun h => ?_⟩
  rcases h with ⟨n,h1,h2⟩ | h
  ·cases GU.mp h1; exact h2.zero
  ·cases h
 ·rw [AV]
  exact ⟨fun h=>⟨h ▸ .z,fun k hk=>absurd hk (Dd _)⟩,fun h=>h.1.zero⟩
theorem Rnd.add {ns:List (List Int)} {s g:Int} {d:Nat} {C:List (Int × V)} {Y F:List Int} (h:Rnd ns s g d C Y F) {p o:Int} (hp:p ∈ Y) (ha:stp ns s g p o) (hn:o ∉ C.map (·.1)):Rnd ns s g d (C ++ [(o,.int p)]) Y (F ++ [o]):=by
 have dp:=(h.rdy p).mp hp
 have dw:Dst (stp ns s g) s (d + 1) o:=⟨.st dp.1 ha,fun k hk w=>hn ((h.key o).mpr (.inl ⟨k,Dc hk,w⟩))⟩
 refine ⟨?_,fun e he => ?_,fun v => ?_,h.rdy,fun v hv => ?_⟩
 ·rw [A4]; exact fz h.nd hn
 ·rcases A2.mp he with z | z
  ·exact h.ent e z
  ·rw [AV] at z; subst z
   exact .inr ⟨p,d,rfl,dp,dw,ha⟩
 ·rw [A4,A2,h.key,A2]
  exact or_assoc
 ·rcases A2.mp hv with z | z
  ·exact h.fur v z
  ·rw [AV] at z; subst z; exact dw
theorem Rnd.next {ns:List (List Int)} {s g:Int} {d:Nat} {C:List (Int × V)} {Y F:List Int} (h:Rnd ns s g d C Y F) (cl:∀ p ∈ Y,∀ o,stp ns s g p o->o ∈ C.map (·.1)):Rnd ns s g (d + 1) C F []:=by
 have lo:∀ v,Wk (stp ns s g) s (d + 1) v->v ∈ C.map (·.1):=fun v w=>by
  cases w with
  | st w1 r =>
   rename_i p
   by_cases z:∃ k,k < d/\Wk (stp ns s g) s k p
   ·obtain ⟨k,hk,wk⟩:=z
    exact (h.key v).mpr (.inl ⟨k + 1,hk,.st wk r⟩)
   ·exact cl p ((h.rdy p).mpr ⟨w1,fun k hk wk=>z ⟨k,hk,wk⟩⟩) v r
 refine ⟨h.nd,h.ent,fun v=>⟨fun hv => ?_,fun hv => ?_⟩,fun v=>⟨h.fur v,fun dv => ?_⟩,fun v hv=>by cases hv⟩
 ·rcases (h.key v).mp hv with ⟨n,hn,w⟩ | z
  ·exact .inl ⟨n,Dz hn,w⟩
  ·exact .inl ⟨d + 1,AS _,(h.fur v z).1⟩
 ·rcases hv with ⟨n,hn,w⟩ | z
  ·rcases Cp d n with c | c
   ·have:n=d + 1:=by omega
    subst this; exact lo v w
   ·exact (h.key v).mpr (.inl ⟨n,c,w⟩)
  ·cases z
 ·rcases (h.key v).mp (lo v dv.1) with ⟨n,hn,w⟩ | z
  ·exact absurd w (dv.2 n (Nat.lt_succ_of_le hn))
  ·exact z
theorem Rnd.stop {ns:List (List Int)} {s g:Int} {d:Nat} {C:List (Int × V)} (h:Rnd ns s g d C [] []) {k:Nat} {v:Int} (w:Wk (stp ns s g) s k v):v ∈ C.map (·.1):=by
 refine (h.key v).mpr (.inl ?_)
 induction w with
 | z=>exact ⟨0,Br _,.z⟩
 | st w1 r ih =>
  rename_i n p o
  obtain ⟨n,hn,wn⟩:=ih
  by_cases z:∃ k,k < d/\Wk (stp ns s g) s k p
  ·obtain ⟨k,hk,wk⟩:=z
   exact ⟨k + 1,hk,.st wk r⟩
  ·have:n=d:=by
    rcases Cp n d with c | c
    ·exact absurd ⟨n,c,wn⟩ z
    ·omega
   subst this
   have:=(h.rdy p).mpr ⟨wn,fun k hk wk=>z ⟨k,hk,wk⟩⟩
   cases this
theorem Rnd.dst {ns:List (List Int)} {s g:Int} {d:Nat} {C:List (Int × V)} {Y:List Int} (h:Rnd ns s g d C Y []) {v:Int} (hv:v ∈ C.map (·.1)):∃ n,n<=d/\Dst (stp ns s g) s n v:=by
 obtain ⟨e,he,rfl⟩:=Bc.mp hv
 rcases h.ent e he with ⟨h1,_⟩ | ⟨p,n,_,_,h3,_⟩
 ·exact ⟨0,Br _,h1 ▸ .z,fun k hk=>absurd hk (Dd _)⟩
 ·rcases (h.key e.1).mp hv with ⟨k,hk,w⟩ | z
  ·refine ⟨n + 1,?_,h3⟩
   rcases Cp d (n + 1) with c | c
   ·exact absurd w (h3.2 k (by omega))
   ·exact c
  ·cases z
structure Trl (ns:List (List Int)) (s g:Int) (N:Nat) (Z:List Int):Prop where
 hd:Z[0]? = some g
 dst:∀ i x,Z[i]? = some x->i<=N/\Dst (stp ns s g) s (N - i) x
 ch:∀ i x y,Z[i]? = some x->Z[i + 1]? = some y->stp ns s g y x
theorem Trl.start {ns:List (List Int)} {s g:Int} {N:Nat} (h:Dst (stp ns s g) s N g):Trl ns s g N [g]:=by
 refine ⟨rfl,fun i x e => ?_,fun i x y _ e=>by simp at e⟩
 cases i with
 | zero=>cases e; exact ⟨Br _,h⟩
 | succ i=>simp at e
theorem Trl.add {ns:List (List Int)} {s g:Int} {N n:Nat} {W:List Int} {p q:Int} (h:Trl ns s g N (W ++ [p])) (hn:n + 1 + W.length=N) (dq:Dst (stp ns s g) s n q) (hs:stp ns s g q p):Trl ns s g N (W ++ [p] ++ [q]):=by
 have lz:(W ++ [p]).length=W.length + 1:=by simp
 refine ⟨?_,fun i x e => ?_,fun i x y e1 e2 => ?_⟩
 ·rw [Bf (by omega)]; exact h.hd
 ·rcases Cp i (W.length + 1) with c | c
  ·rw [Bf (by omega)] at e; exact h.dst i x e
  ·rw [Bk (by omega),lz] at e
   have:i - (W.length + 1)=0:=by
    rcases C0 (i - (W.length + 1)) with z | z
    ·exact z
    ·rw [Bl (by simp; omega)] at e; cases e
   rw [this] at e; cases e
   refine ⟨by omega,?_⟩
   rw [show N - i=n by omega]; exact dq
 ·rcases Cp (i + 1) (W.length + 1) with c | c
  ·rw [Bf (by omega)] at e1 e2; exact h.ch i x y e1 e2
  ·rw [Bk (by omega),lz] at e2
   have:i + 1 - (W.length + 1)=0:=by
    rcases C0 (i + 1 - (W.length + 1)) with z | z
    ·exact z
    ·rw [Bl (by simp; omega)] at e2; cases e2
   rw [this] at e2; cases e2
   rw [Bf (by omega),Bk (by omega),show i - W.length=0 by omega] at e1
   cases e1; exact hs
def Way (ns:List (List Int)) (s g:Int) (N:Nat) (Z:List Int):Prop:=Trl ns s g N Z/\Z.length=N + 1
def chn (P:Int->Int->Prop):List Int->Prop
 | a :: b :: t=>P a b/\chn P (b :: t)
 | _=>True
theorem oe {P:Int->Int->Prop}:∀ (l:List Int) (a:Int) (r:List Int),chn P (l ++ a :: r) ↔ chn P (l ++ [a])/\chn P (a :: r)
 | [],a,r=>⟨fun h=>⟨trivial,h⟩,fun h=>h.2⟩
 | [x],a,r=>⟨fun h=>⟨⟨h.1,trivial⟩,h.2⟩,fun h=>⟨h.1.1,h.2⟩⟩
 | x :: y :: l,a,r=>by
  have ih:=oe (P:=P) (y :: l) a r
  exact ⟨fun h=>⟨⟨h.1,(ih.mp h.2).1⟩,(ih.mp h.2).2⟩,fun h=>⟨h.1.1,ih.mpr ⟨h.1.2,h.2⟩⟩⟩
theorem sr {P:Int->Int->Prop}:∀ {Z:List Int},(∀ (i:Nat) x y,Z[i]? = some x->Z[i + 1]? = some y->P x y)->chn P Z
 | [],_=>trivial
 | [_],_=>trivial
 | a :: b :: t,h=>⟨h 0 a b rfl rfl,sr fun i x y e1 e2=>h (i + 1) x y e1 e2⟩
theorem su {P:Int->Int->Prop}:∀ {Z:List Int},chn P Z->∀ (i:Nat) x y,Z[i]? = some x->Z[i + 1]? = some y->P x y
 | [],_,_,_,_,e,_=>by simp at e
 | [_],_,i,_,_,_,e=>by simp at e
 | a :: b :: t,h,0,x,y,e1,e2=>by cases e1; cases e2; exact h.1
 | a :: b :: t,h,i + 1,x,y,e1,e2=>su h.2 i x y e1 e2
theorem sv {P:Int->Int->Prop} (sy:∀ a b,P a b->P b a):∀ {Z:List Int},chn P Z->chn P Z.reverse
 | [],_=>trivial
 | [_],_=>trivial
 | a :: b :: t,h=>by
  rw [DD,DD,Bo]
  show chn P (t.reverse ++ b :: [a])
  rw [oe]
  have:=sv sy h.2
  rw [DD] at this
  exact ⟨this,sy _ _ h.1,trivial⟩
def Td (ns:List (List Int)) (x y:Int):Prop:=nrm x y ∈ ns
theorem Td.symm {ns:List (List Int)} (x y:Int) (h:Td ns x y):Td ns y x:=by unfold Td at *; rw [cu]; exact h
theorem cg {a b:Int} (h:a<=b):nrm a b=[a,b]:=by
 unfold nrm mnI mxI
 by_cases c:a=b
 ·subst c; simp
 ·rw [if_neg (by omega),if_pos (by omega)]
theorem eA {m:Nat} {ns:List (List Int)} (O:Ok m ns) {u v:Int}:Adj ns u v ↔ u ≠ v/\Td ns u v:=by
 rw [df O]
 unfold Td
 constructor
 ·rintro ⟨a,b,hp,ne,h⟩
  obtain ⟨_,_,e,_,ab,_⟩:=O _ hp
  cases e
  rcases h with ⟨rfl,rfl⟩ | ⟨rfl,rfl⟩
  ·exact ⟨ne,by rw [cg ab]; exact hp⟩
  ·exact ⟨BN ne,by rw [cu,cg ab]; exact hp⟩
 ·rintro ⟨ne,h⟩
  rcases FD u v with c | c
  ·rw [cg c] at h; exact ⟨u,v,h,ne,.inl ⟨rfl,rfl⟩⟩
  ·rw [cu,cg c] at h; exact ⟨v,u,h,BN ne,.inr ⟨rfl,rfl⟩⟩
structure Ring (m:Nat) (ns:List (List Int)) (Z:List Int):Prop where
 ne:Z ≠ []
 nd:Z.Nodup
 rng:∀ v ∈ Z,0<=v/\v < m
 ch:chn (Td ns) (Z ++ Z.take 1)
 two:∀ x y,Z=[x,y]->2<=ns.count (nrm x y)
theorem Ring.rot {m:Nat} {ns:List (List Int)} {u v:List Int} (h:Ring m ns (u ++ v)):Ring m ns (v ++ u):=by
 cases u with
 | nil=>rw [BM]; exact h
 | cons a u =>
  cases v with
  | nil=>rw [BM] at h; exact h
  | cons b v =>
   have pm:((b :: v) ++ (a :: u)).Perm ((a :: u) ++ (b :: v)):=CC
   refine ⟨by simp,pm.nodup_iff.mpr h.nd,fun x hx=>h.rng x (pm.mem_iff.mp hx),?_,fun x y e => ?_⟩
   ·have c:=h.ch
    rw [show (a :: u) ++ (b :: v) ++ ((a :: u) ++ (b :: v)).take 1=(a :: u) ++ b :: (v ++ [a]) by simp] at c
    rw [show (b :: v) ++ (a :: u) ++ ((b :: v) ++ (a :: u)).take 1=(b :: v) ++ a :: (u ++ [b]) by simp]
    rw [oe] at c ⊢
    exact ⟨c.2,c.1⟩
   ·have:v=[]:=by
     cases v with
     | nil=>rfl
     | cons c v=>simp at e
    subst this
    have:u=[]:=by
     cases u with
     | nil=>rfl
     | cons c u=>simp at e
    subst this
    simp at e
    obtain ⟨rfl,rfl⟩:=e
    rw [cu]
    exact h.two _ _ rfl
theorem Ring.turn {m:Nat} {ns:List (List Int)} {a:Int} {t:List Int} (h:Ring m ns (a :: t)):Ring m ns (a :: t.reverse):=by
 have pm:(a :: t.reverse).Perm (a :: t):=(Gr t).cons a
 refine ⟨by simp,pm.nodup_iff.mpr h.nd,fun x hx=>h.rng x (pm.mem_iff.mp hx),?_,fun x y e => ?_⟩
 ·have c:=sv (Td.symm (ns:=ns)) h.ch
  rw [show ((a :: t) ++ (a :: t).take 1).reverse=(a :: t.reverse) ++ (a :: t.reverse).take 1 by simp] at c
  exact c
 ·injection e with e1 e2
  have:t=[y]:=by
   have:=congrArg List.reverse e2
   rwa [DF] at this
  subst this; subst e1
  exact h.two _ _ rfl
theorem Trl.inj {ns:List (List Int)} {s g:Int} {N:Nat} {Z:List Int} (h:Trl ns s g N Z):Z.Nodup:=by
 refine C2.mpr fun i j hi hj hij e => ?_
 have a:=h.dst i Z[i] (AO hi)
 have b:=h.dst j Z[j] (AO hj)
 rw [<- e] at b
 have:=a.2.uniq b.2
 omega
theorem Trl.rng {m:Nat} {ns:List (List Int)} (O:Ok m ns) {s g:Int} (hs:0<=s/\s < m) {N:Nat} {Z:List Int} (h:Trl ns s g N Z):∀ v ∈ Z,0<=v/\v < m:=fun v hv=>by
 obtain ⟨i,e⟩:=Bt.mp hv
 exact (h.dst i v e).2.1.rng O hs
theorem Way.last {ns:List (List Int)} {s g:Int} {N:Nat} {Z:List Int} (h:Way ns s g N Z):Z[N]? = some s:=by
 obtain ⟨x,ex⟩:∃ x,Z[N]? = some x:=⟨_,AO (by have:=h.2; omega)⟩
 have a:=(h.1.dst N x ex).2
 rw [Gu] at a
 rw [ex,a.1.zero]
theorem Way.two {ns:List (List Int)} {s g:Int} (ne:s ≠ g) {N:Nat} {Z:List Int} (h:Way ns s g N Z):2<=N:=by
 rcases N with _ | _ | N
 ·have a:=(h.1.dst 0 g h.1.hd).2
  exact absurd a.1.zero.symm ne
 ·have:=h.1.ch 0 g s h.1.hd h.last
  exact absurd this.2 (by simp)
 ·omega
theorem Way.ring {m:Nat} {ns:List (List Int)} (O:Ok m ns) {s g:Int} (ne:s ≠ g) (hs:0<=s/\s < m) (td:Td ns s g) {N:Nat} {Z:List Int} (h:Way ns s g N Z):Ring m ns Z:=by
 have h2:=h.two ne
 have lz:=h.2
 refine ⟨fun z=>by rw [z] at lz; simp at lz,h.1.inj,h.1.rng O hs,?_,fun x y e=>by rw [e] at lz; simp at lz; omega⟩
 ·have t1:Z.take 1=[g]:=by
   have:=h.1.hd
   cases Z with
   | nil=>cases this
   | cons a t=>cases this; rfl
  rw [t1]
  refine sr fun i x y e1 e2 => ?_
  rcases Cp (i + 1) Z.length with c | c
  ·rw [Bf (by omega)] at e1 e2
   exact Td.symm _ _ ((eA O).mp (h.1.ch i x y e1 e2).1).2
  ·rw [Bk (by omega)] at e2
   have:i + 1 - Z.length=0:=by
    rcases C0 (i + 1 - Z.length) with z | z
    ·exact z
    ·rw [Bl (by simp; omega)] at e2; cases e2
   rw [this] at e2; cases e2
   rw [Bf (by omega),show i=N by omega,h.last] at e1
   cases e1; exact td
def inn (s g p:Int) (CF:List (Int × V) × List Int) (o:Int):List (Int × V) × List Int :=
 if o ∈ CF.1.map (·.1)\/¬ (p ≠ s\/o ≠ g) then CF else (CF.1 ++ [(o,.int p)],CF.2 ++ [o])
def zP (nb:Int->List Int) (s g:Int) (CF:List (Int × V) × List Int) (p:Int):List (Int × V) × List Int:=(nb p).foldl (inn s g p) CF
def itW (nb:Int->List Int) (s g:Int):Nat->List (Int × V) × List Int
 | 0=>([(s,.non)],[s])
 | k + 1=>(itW nb s g k).2.foldl (zP nb s g) ((itW nb s g k).1,[])
def vY (g:Int) (CY:List (Int × V) × List Int):Prop:=CY.2=[]\/g ∈ CY.1.map (·.1)
def vZ (nb:Int->List Int) (s g:Int) (C:List (Int × V)):Prop:=∃ k,(itW nb s g k).1=C/\vY g (itW nb s g k)/\∀ j,j < k->¬ vY g (itW nb s g j)
theorem vZ.uniq {nb:Int->List Int} {s g:Int} {C C':List (Int × V)} (h:vZ nb s g C) (h':vZ nb s g C'):C=C':=by
 obtain ⟨k,e,st,no⟩:=h
 obtain ⟨k',e',st',no'⟩:=h'
 have:k=k':=by
  rcases Ef k k' with z | z | z
  ·exact absurd st (no' k z)
  ·exact z
  ·exact absurd st' (no k' z)
 rw [<- e, <- e',this]
def nxt:Option Int->V
 | some y => .int y
 | none => .non
theorem xV {a b:Option Int} (h:nxt a=nxt b):a=b:=by
 cases a <;> cases b <;> simp [nxt] at h ⊢
 exact h
def Tra (C:List (Int × V)) (g:Int) (Z:List Int):Prop:=Z[0]? = some g/\∀ (i:Nat) x,Z[i]? = some x->cy (mp C) (Sum.inl x)=some (nxt Z[i + 1]?)
theorem Tra.uniq {C:List (Int × V)} {g:Int} {Z Z':List Int} (h:Tra C g Z) (h':Tra C g Z'):Z=Z':=by
 apply Cy
 intro i
 induction i with
 | zero=>rw [h.1,h'.1]
 | succ i ih =>
  cases e:Z[i]? with
  | none =>
   rw [e] at ih
   rw [Bl (by have:=CA.mp e; omega),Bl (by have:=CA.mp ih.symm; omega)]
  | some x =>
   have a:=h.2 i x e
   have b:=h'.2 i x (ih ▸ e)
   rw [a] at b
   exact xV (Bb b)
def v3 (nb:Int->List Int) (s g:Int) (Z:List Int):Prop:=∃ C,vZ nb s g C/\Tra C g Z
theorem v3.uniq {nb:Int->List Int} {s g:Int} {Z Z':List Int} (h:v3 nb s g Z) (h':v3 nb s g Z'):Z=Z':=by
 obtain ⟨C,f,t⟩:=h
 obtain ⟨C',f',t'⟩:=h'
 have:=f.uniq f'
 subst this
 exact t.uniq t'
def fV (rows:List (List Int)) (p:Int):List Int:=rows.getD p.toNat []
theorem cP {α β : Type} {f : β -> α -> β} {b : β} {l:List α} {i:Nat} {x : α} (e:l[i]? = some x):(l.take (i + 1)).foldl f b=f ((l.take i).foldl f b) x:=by
 rw [BU,e,List.foldl_append]; rfl
def rot (ns:List Int) (k:Nat):List Int:=ns.drop k ++ ns.take k
def turn (ns:List Int):List Int:=ns.take 1 ++ (ns.drop 1).reverse
def i6 (a b:List Int):List Int:=if HT.lexLt b a=true then b else a
def frm (ns:List Int) (M:Int):List Int:=i6 (rot ns (ns.idxOf M)) (turn (rot ns (ns.idxOf M)))
theorem rh (xs:List V) {k:Nat} (h:k<=xs.length):fD xs none (some (k:Int))=xs.take k:=by
 unfold fD HT.sIx
 simp only [show ¬ ((k:Int) < 0) by omega,if_false,BO,Fw,Eg,show min k xs.length=k by omega]
theorem kP (xs:List V) {k:Nat} (h:k<=xs.length):fD xs (some (k:Int)) none=xs.drop k:=by
 unfold fD HT.sIx
 simp only [show ¬ ((k:Int) < 0) by omega,if_false,BO,show min k xs.length=k by omega]
 exact A7 (by rw [BS]; exact AS _)
abbrev sC:Sp:=fun vs H Q _=>∃ (p:Addr) (ns:List Int),vs=[.ref p]/\H p=some (.tup (ns.map V.int))/\ns ≠ []/\ns.length<=500/\∀ (z:Addr) (H':Hp) (M:Int),aB H H'->M ∈ ns->(∀ b ∈ ns,M<=b)->H' z=some (.tup ((frm ns M).map V.int))->Q (.ref z) H'
@[irreducible] def kQ:Sp:=sC
theorem gY {vs:List V} {H:Hp} {Q:VK} {E:XK}:kQ vs H Q E ↔ sC vs H Q E:=by
 delta kQ
 exact CS
section
variable {P:Program} {w:World} {K:PySem.W.Frag} {mg:Str->Option Value} {base:Heap} {f T:Addr} {fd:FuncData}
theorem gZ:aW ["ring", "at", "onward"] ["ring"] (az dE):=⟨rfl,rfl,rfl,by decide +kernel,rfl,by decide +kernel,by decide +kernel⟩
theorem rj (F:Fun K "ring_form" "ring_form" dE f fd) (B:Blt mg):cB P w K mg base CX0 1 f fd ["ring"] kQ:=by
 refine F.ok gZ (fun vs H Q E h => ?_) (fun cdv A outer s H vs Q E hr h => ?_)
 ·obtain ⟨_,_,rfl,_⟩:=gY.mp h
  rfl
 obtain ⟨p,ns,rfl,ep,ne,l5,q⟩:=gY.mp h
 refine ⟨_,(@ah _ _ _ _ _ (@aQ _ _ 1 _ _ _ _ gZ.nd rfl (Or.inl rfl) (nN E9 PySem.F.type_tuple_index uh (pv 0) (@aa _ _ _ _ _ (aq (qY rfl) rfl B.b_min d9 (@aa _ _ _ _ _ (pv 0) ag rfl)) ag rfl)) rfl (by first | exact .inl rfl | exact .inr rfl | assumption))
  (@ah _ _ _ _ _ (@aQ _ _ 2 _ _ _ _ gZ.nd rfl (Or.inl rfl) (@aL _ _ _ _ _ _ _ _ pG (aI bB rfl B.b_tuple dP (@aa _ _ _ _ _ (dg gw (pv 0) (dz (pv 1)) fg) ag rfl)) (aI bB rfl B.b_tuple dP (@aa _ _ _ _ _ (dg gw (pv 0) fg (dz (pv 1))) ag rfl))) rfl (by first | exact .inl rfl | exact .inr rfl | assumption))
  (@au _ _ _ (@aS _ _ _ _ (aq (qX rfl (hu8 hr)) rfl B.b_min d9 (@aa _ _ _ _ _ (pv 2) (@aa _ _ _ _ _ (@aL _ _ _ _ _ _ _ _ pG (dg gw (pv 2) fg (dz ai)) (ug hr.hd rfl B.b_tuple rfl B.b_reversed (dg gw (pv 2) (dz ai) fg))) ag rfl) rfl)))))),?_⟩
 have lm:(ns.map V.int).length=ns.length:=AM _
 refine ⟨_,rfl,⟨p,_,rfl,ep⟩,_,rfl,p,ns,rfl,SqT.of ep,ne,fun M hM mn=>⟨p,ns,M,rfl,rfl,ep,hM,?_⟩⟩
 have hk:ns.idxOf M<=ns.length:=DP (DV.mpr hM)
 have q:=fun z H'=>q z H' M
 unfold frm rot at q
 generalize ns.idxOf M=k at hk q
 refine ⟨_,rfl,_,rfl,_,rfl,p,_,rfl,ep,fun p1 H1 s1 e1=>⟨p1,_,rfl,.inr ⟨SqT.of e1,?_⟩⟩⟩
 rw [kP _ (by rw [lm]; exact hk), <- DC] at e1
 refine ⟨_,rfl,_,rfl,_,rfl,p,_,rfl,s1 _ _ ep,fun p2 H2 s2 e2=>⟨p2,_,rfl,.inr ⟨SqT.of e2,?_⟩⟩⟩
 rw [rh _ (by rw [lm]; exact hk), <- EA] at e2
 refine ⟨p1,p2,_,_,rfl,rfl,s2 _ _ e1,e2,by rw [AM,AM,BS,BL]; exact small (by omega),fun p3 H3 s3 e3 => ?_⟩
 rw [<- A4] at e3
 have lo:(ns.drop k ++ ns.take k).length=ns.length:=by rw [AQ,BS,BL]; omega
 generalize ns.drop k ++ ns.take k=os at e3 lo q
 have lom:(os.map V.int).length=os.length:=AM _
 have po:=Cz.mpr ne
 refine ⟨_,rfl,_,rfl,1,rfl,p3,_,rfl,e3,fun p4 H4 s4 e4 => ?_⟩
 rw [show fD (os.map V.int) none (some 1)=(os.map V.int).take 1 from rh (k:=1) _ (by rw [lom]; omega), <- EA] at e4
 refine ⟨_,rfl,1,rfl,p3,_,rfl,s4 _ _ e3,fun p5 H5 s5 e5 => ?_⟩
 rw [show fD (os.map V.int) (some 1) none=(os.map V.int).drop 1 from kP (k:=1) _ (by rw [lom]; omega), <- DC] at e5
 refine ⟨p5,_,rfl,SqT.of e5,by rw [AM,BS]; omega,fun p6 hp6 => ?_⟩
 rw [<- GI]
 have g6:=ae hp6 (.tup ((os.drop 1).reverse.map V.int))
 have ep6:upd H5 p6 (.tup ((os.drop 1).reverse.map V.int)) p6=some (.tup ((os.drop 1).reverse.map V.int)):=af
 generalize upd H5 p6 (.tup ((os.drop 1).reverse.map V.int))=H6 at g6 ep6
 refine ⟨p4,p6,_,_,rfl,rfl,g6 _ _ (s5 _ _ e4),ep6,by rw [AM,AM,BL,Cf,BS]; exact small (by omega),fun p7 H7 s7 e7 => ?_⟩
 rw [<- A4] at e7
 have s47:=s4.trans (s5.trans (g6.trans s7))
 have sA:=s1.trans (s2.trans (s3.trans s47))
 refine ⟨p3,p7,os,_,rfl,SqT.of (s47 _ _ e3),SqT.of e7,fun z=>q p7 H7 sA hM mn ?_,fun z=>q p3 H7 sA hM mn ?_⟩
 ·rw [show i6 os (turn os)=turn os by unfold i6; exact if_pos z]
  exact e7
 ·rw [show i6 os (turn os)=os by unfold i6; exact if_neg (by show ¬ HT.lexLt (turn os) os=true; unfold turn; rw [z]; exact A9)]
  exact s47 _ _ e3
end
open PySem L2
def yl (σ:St) (H:Hp):Nat:=match σ with
 | _ :: _ :: _ :: _ :: some (.ref y) :: _=>match H y with
  | some (.lst (_ :: _))=>1
  | _=>0
 | _=>0
theorem yy {c0 c1 c2 c3:Option V} {y:Addr} {r:St} {H:Hp} {xs:List V} (e:H y=some (.lst xs)):yl (c0 :: c1 :: c2 :: c3 :: some (.ref y) :: r) H=if xs=[] then 0 else 1:=by
 unfold yl
 dsimp only
 rw [e]
 cases xs with
 | nil=>rfl
 | cons a t=>rfl
theorem i7 {n:Nat} (h:n<=5000):n < sizeLine:=CV h (by decide)
theorem jt {ms:List Int} {i:Nat} {x:V} (e:(ms.map V.int)[i]? = some x):∃ n,ms[i]? = some n/\x = .int n:=by
 rw [AX] at e
 cases z:ms[i]? with
 | none=>rw [z] at e; cases e
 | some n=>rw [z] at e; exact ⟨n,rfl,(Bb e).symm⟩
theorem jG {H:Hp} {d:Addr} {kvs:List (Key × V)} (e:H d=some (.dK kvs)):uj H d=kvs.length:=by unfold uj; rw [e]
theorem sD {H:Hp} {d:Addr} {xs:List V} (e:H d=some (.lst xs)):xS H d=xs.length:=by unfold xS; rw [e]
theorem gE {l:List Int} {i:Nat} {x v:Int} (e:l[i]? = some x) (h:v ∈ l.take (i + 1)):v ∈ l.take i\/v=x:=by
 rw [BU,e] at h
 rcases A2.mp h with z | z
 ·exact .inl z
 ·exact .inr (by simpa using z)
abbrev v5:Sp:=fun vs H Q _=>∃ (n:Addr) (m:Nat) (ns:List (List Int)) (os:List (Addr × List Int)) (s g:Int),vs=[.ref n,.int s,.int g]/\i5 H n m ns os/\Ok m ns/\m<=400/\(0<=s/\s < m)/\s ≠ g/\(∀ H',aB H H'->(∀ k,¬ Wk (stp ns s g) s k g)->Q .non H')/\∀ (z:Addr) (H':Hp) (N:Nat) (Z:List Int),aB H H'->H' z=some (.tup (Z.map V.int))->Way ns s g N Z->v3 (fV (os.map (·.2))) s g Z->Q (.ref z) H'
@[irreducible] def pO:Sp:=v5
theorem i8 {vs:List V} {H:Hp} {Q:VK} {E:XK}:pO vs H Q E ↔ v5 vs H Q E:=by
 delta pO
 exact CS
section
variable {P:Program} {w:World} {K:PySem.W.Frag} {mg:Str->Option Value} {base:Heap} {f T:Addr} {fd:FuncData}
theorem bQ:aW ["near", "start", "goal", "came", "ready", "further", "place", "other", "way"] ["near", "start", "goal"] (az cM):=⟨rfl,rfl,rfl,by decide +kernel,rfl,by decide +kernel,by decide +kernel⟩
theorem rn (F:Fun K "way_about" "way_about" cM f fd) (B:Blt mg):cB P w K mg base CX0 1 f fd ["near", "start", "goal"] pO:=by
 refine F.ok bQ (fun vs H Q E h => ?_) (fun cdv A outer s H vs Q E hr h => ?_)
 ·obtain ⟨_,_,_,_,_,_,rfl,_⟩:=i8.mp h
  rfl
 obtain ⟨n,m,ns,os,sa,gb,rfl,N,O,m4,hs,nsg,q0,q1⟩:=i8.mp h
 have hu:(ly CX0 P w K mg base ["near", "start", "goal", "came", "ready", "further", "place", "other", "way"] "way_about" (az cM) f cdv A outer s H E).nox.A.units + 1 < cLine:=yh hr
 have kl:∀ {d:Nat} {C:List (Int × V)} {Y F:List Int},Rnd ns sa gb d C Y F->C.length<=m:=fun {d C Y F} I=>by
  have:=cU I.nd (m:=m) fun v hv=>by
   rcases (I.key v).mp hv with ⟨k,_,wk⟩ | z
   ·exact wk.rng O hs
   ·exact (I.fur v z).1.rng O hs
  rwa [AM] at this
 refine eX ((aH cM).drop 3) (fun σ H'=>∃ (c5 c6 c7:Option V) (dd y:Addr) (d:Nat) (C:List (Int × V)) (Y:List Int),σ=[some (.ref n),some (.int sa),some (.int gb),some (.ref dd),some (.ref y),c5,c6,c7,none]/\H dd=none/\aB H H'/\H' dd=some (.dK (mp C))/\H' y=some (.lst (Y.map V.int))/\Rnd ns sa gb d C Y []/\(Y=[]\/gb ∈ C.map (·.1))/\vZ (fV (os.map (·.2))) sa gb C) ?hT fun tT pT mT => ?gT
 case hT =>
  refine ⟨_,(@ah _ _ _ _ _ (@bL _ _ _ _ _ _ _ _ (iK (gu hu (pv 2) (pv 3))) (@au _ _ _ (@aS _ _ _ _ iJ)) aV)
  (@ah _ _ _ _ _ (@aQ _ _ 8 _ _ _ _ bQ.nd rfl (Or.inl rfl) (@cQ _ _ _ _ ag) rfl (by first | exact .inl rfl | exact .inr rfl | assumption))
  (@ah _ _ _ _ _ (@aQ _ _ 6 _ _ _ _ bQ.nd rfl (Or.inl rfl) (pv 2) rfl (by first | exact .inl rfl | exact .inr rfl | assumption))
  (@ah _ _ _ _ _ (jO Bw (aO rF (pv 6) iJ (aR _))
   (@ah _ _ _ _ _ (bR (dy Bm BG BH bT (pv 8) (@aa _ _ _ _ _ (pv 6) ag rfl)))
   (@au _ _ _ (@aQ _ _ 6 _ _ _ _ bQ.nd rfl (Or.inl rfl) (nR hu (pv 3) (pv 6) (fun _ _=>rfl)) rfl (by first | exact .inl rfl | exact .inr rfl | assumption)))))
  (@au _ _ _ (@aS _ _ _ _ (aI bB rfl B.b_tuple dP (@aa _ _ _ _ _ (pv 8) ag rfl)))))))),?_⟩
  rintro σ H' ⟨c5,c6,c7,dd,y,d,C,Y,rfl,hdd,s',ed,ey,I,h2,fw⟩
  refine ⟨_,rfl,_,rfl,dd,_,rfl,fE.k (k:=Sum.inl gb) ed,_,rfl,?_⟩
  rw [sq]
  by_cases hg:gb ∈ C.map (·.1)
  ·rw [decide_eq_true hg]
   refine cI ⟨(by show 0<=sizeLine; decide),fun wy hwy => ?_⟩
   have g2:=ae hwy (.lst [])
   have ew:upd H' wy (.lst []) wy=some (.lst (([]:List Int).map V.int)):=af
   have ed2:=g2 _ _ ed
   have hw0:=s'.free hwy
   have ndw:dd ≠ wy:=aD ed hwy
   have s2:=s'.trans g2
   generalize upd H' wy (.lst [])=H2 at g2 ew ed2 s2
   obtain ⟨NN,hN,dN⟩:=I.dst hg
   refine ⟨_,rfl,?_⟩
   refine jQ (fun σ H'=>∃ (x:V) (W Z:List Int),σ=[some (.ref n),some (.int sa),some (.int gb),some (.ref dd),some (.ref y),c5,some x,c7,some (.ref wy)]/\aB H H'/\H' dd=some (.dK (mp C))/\H' wy=some (.lst (W.map V.int))/\Trl ns sa gb NN Z/\(∀ (i:Nat) u v,Z[i]? = some u->Z[i + 1]? = some v->cy (mp C) (Sum.inl u)=some (.int v))/\((∃ (p:Int) (k:Nat),x = .int p/\Z=W ++ [p]/\Dst (stp ns sa gb) sa k p/\k + W.length=NN)\/(x = .non/\Z=W/\Z.length=NN + 1/\∀ u,Z[NN]? = some u->cy (mp C) (Sum.inl u)=some .non)))
    (fun σ H'=>NN + 1 - xS H' wy) ⟨_,[],[gb],rfl,s2,ed2,ew,Trl.start dN,fun i u v _ e=>by simp at e,.inl ⟨gb,NN,rfl,rfl,dN,rfl⟩⟩ ?_ ?_
   ·rintro σ H3 ⟨x,W,Z,rfl,s3,ed3,ew3,tr,vc,cs⟩
    have yw:=sD ew3
    rw [AM] at yw
    rcases cs with ⟨p,k,rfl,rfl,dp,kW⟩ | ⟨rfl,rfl,lZ,vl⟩
    ·refine ⟨_,rfl,rfl,_,rfl,bX ?_⟩
     refine ⟨_,rfl,.inl ⟨rfl,_,SqL.of ew3⟩,_,rfl,wy,_,_,rfl,rfl,ew3,by rw [AM]; exact cf (by have:=cU tr.inj (tr.rng O hs); rw [AQ] at this; omega),?_⟩
     have ew4:upd H3 wy (.lst (W.map V.int ++ [.int p])) wy=some (.lst ((W ++ [p]).map V.int)):=by rw [af,A4]; rfl
     have ed4:upd H3 wy (.lst (W.map V.int ++ [.int p])) dd=some (.dK (mp C)):=by rw [aE ndw]; exact ed3
     have s4:=aB.bG s3 hw0 (.lst (W.map V.int ++ [.int p]))
     generalize upd H3 wy (.lst (W.map V.int ++ [.int p]))=H4 at ew4 ed4 s4
     have y4:=sD ew4
     rw [AM,AQ] at y4
     have y4':xS H4 wy=W.length + 1:=y4
     obtain ⟨x,hx,ex⟩:=zO ((I.key p).mpr (.inl ⟨k,by omega,dp.1⟩))
     refine ⟨_,rfl,_,rfl,dd,x,rfl,?_,⟨x,W ++ [p],?_⟩,by rw [yw,y4']; omega⟩
     ·have:=fE.k (k:=Sum.inl p) ed4
      rw [ex] at this
      exact this
     rcases I.ent _ hx with ⟨e1,e2⟩ | ⟨p',k',e2,d1,d2,st⟩
     ·have k0:k=0:=dp.uniq (b:=0) (by rw [show p=sa from e1]; exact ⟨.z,fun j hj=>absurd hj (Dd _)⟩)
      refine ⟨W ++ [p],rfl,s4,ed4,ew4,tr,vc,.inr ⟨e2,rfl,by rw [AQ]; show W.length + 1=_; omega,fun u eu => ?_⟩⟩
      rw [Bk (by omega),show NN - W.length=0 by omega] at eu
      cases eu
      rw [ex,show x=V.non from e2]
     ·have kk:k=k' + 1:=dp.uniq d2
      refine ⟨W ++ [p] ++ [p'],rfl,s4,ed4,ew4,tr.add (by omega) d1 st,fun i u v e3 e4 => ?_,.inl ⟨p',k',e2,rfl,d1,by rw [AQ]; show k' + (W.length + 1)=_; omega⟩⟩
      have lW:(W ++ [p]).length=W.length + 1:=by simp
      rcases Cp (i + 1) (W.length + 1) with c | c
      ·rw [Bf (by omega)] at e3 e4; exact vc i u v e3 e4
      ·rw [Bk (by omega),lW] at e4
       have:i + 1 - (W.length + 1)=0:=by
        rcases C0 (i + 1 - (W.length + 1)) with z | z
        ·exact z
        ·rw [Bl (by simp; omega)] at e4; cases e4
       rw [this] at e4; cases e4
       rw [Bf (by omega),Bk (by omega),show i - W.length=0 by omega] at e3
       cases e3
       rw [ex,show x=V.int p' from e2]
    ·refine ⟨_,rfl,rfl,_,rfl,cI ?_⟩
     refine ⟨_,rfl,wy,_,rfl,.inl ⟨SqL.of ew3,fun z hz=>q1 z _ NN Z (s3.trans (ae hz _)) af ⟨tr,lZ⟩ ⟨C,fw,tr.hd,fun i u eu => ?_⟩⟩⟩
     cases ev:Z[i + 1]? with
     | some v=>exact vc i u v eu ev
     | none =>
      have h1:=(AU.mp eu).1
      have h2:=CA.mp ev
      exact vl u (by rw [show NN=i by omega]; exact eu)
   ·rintro σ H Q Q' h ⟨v,e,k,c,t,q⟩; exact ⟨v,e,k,c,t,h _ _ q⟩
  ·rw [decide_eq_false hg]
   have hY:Y=[]:=h2.resolve_right hg
   subst hY
   exact bX (q0 H' s' fun k wk=>hg (I.stop wk))
 case gT =>
 refine ⟨_,(@ah _ _ _ _ _ (@aQ _ _ 3 _ _ _ _ bQ.nd rfl (Or.inl rfl) (xH (vz (pv 1) iJ xG) rfl rfl (by simp) (by decide)) rfl (by first | exact .inl rfl | exact .inr rfl | assumption))
  (@ah _ _ _ _ _ (@aQ _ _ 4 _ _ _ _ bQ.nd rfl (Or.inl rfl) (@cQ _ _ _ _ (@aa _ _ _ _ _ (pv 1) ag rfl)) rfl (by first | exact .inl rfl | exact .inr rfl | assumption))
  (@ah _ _ _ _ _ (jO Bw (PW.pt (qk (oE (pv 4) (fun _=>rfl)) (nz (iK (gu hu (pv 2) (pv 3))))))
   (@ah _ _ _ _ _ (@aQ _ _ 5 _ _ _ _ bQ.nd rfl (Or.inl rfl) (@cQ _ _ _ _ ag) rfl (by first | exact .inl rfl | exact .inr rfl | assumption))
   (@ah _ _ _ _ _ (@bV _ _ _ _ _ _ _ _ Bw rfl (@cj _ _ _ _ (pv 4)) (ak (i:=6) bQ.nd rfl (Or.inl rfl))
    (@au _ _ _ (@bV _ _ _ _ _ _ _ _ Bw rfl (@cj _ _ _ _ (@aN _ _ _ _ _ _ _ cH (pv 0) (pv 6) (fun _ _=>rfl))) (ak (i:=7) bQ.nd rfl (Or.inl rfl))
     (@au _ _ _ (@bL _ _ _ _ _ _ _ _ (PW.pt (qk (iK (gu hu (pv 7) (pv 3))) (nz (PW.pt (gL (aO jR (pv 6) (pv 1) (aR _)) (iL (aO jR (pv 7) (pv 2) (aR _)))))))) (@ah _ _ _ _ _ (nU hu (pv 3) (pv 7) (pv 6) rfl)
      (@au _ _ _ (bR (dy Bm BG BH bT (pv 5) (@aa _ _ _ _ _ (pv 7) ag rfl))))) aV)) (fun _=>rfl))) (fun _=>rfl))
   (@au _ _ _ (@aQ _ _ 4 _ _ _ _ bQ.nd rfl (Or.inl rfl) (pv 5) rfl (by first | exact .inl rfl | exact .inr rfl | assumption))))))
  pT))),?_⟩
 refine fun dd hdd=>⟨_,rfl,af,[(Sum.inl sa,.non)],rfl,(by show 1<=15; decide),?_⟩
 have e1d:upd (upd H dd (.dK [])) dd (.dK (fR [] [(Sum.inl sa,V.non)])) dd=some (.dK (mp [(sa,.non)])):=af
 have s1:aB H (upd (upd H dd (.dK [])) dd (.dK (fR [] [(Sum.inl sa,V.non)]))):=fun b o e=>by
  rw [aE (aD e hdd),aE (aD e hdd)]; exact e
 generalize upd (upd H dd (.dK [])) dd (.dK (fR [] [(Sum.inl sa,V.non)]))=H1 at e1d s1
 refine ⟨_,rfl,(by show 1<=sizeLine; decide),fun y hy => ?_⟩
 have g2:=ae hy (.lst [.int sa])
 have e2y:upd H1 y (.lst [.int sa]) y=some (.lst (([sa]:List Int).map V.int)):=af
 have e2d:=g2 _ _ e1d
 have s2:=s1.trans g2
 generalize upd H1 y (.lst [.int sa])=H2 at g2 e2y e2d s2
 refine jQ (fun σ H'=>∃ (c5 c6 c7:Option V) (y:Addr) (d:Nat) (C:List (Int × V)) (Y:List Int),σ=[some (.ref n),some (.int sa),some (.int gb),some (.ref dd),some (.ref y),c5,c6,c7,none]/\aB H H'/\H' dd=some (.dK (mp C))/\H' y=some (.lst (Y.map V.int))/\Rnd ns sa gb d C Y []/\∃ k,itW (fV (os.map (·.2))) sa gb k=(C,Y)/\∀ j,j < k->¬ vY gb (itW (fV (os.map (·.2))) sa gb j))
  (fun σ H'=>2 * (m - uj H' dd) + yl σ H') ⟨_,_,_,y,0,_,_,rfl,s2,e2d,e2y,Rnd.start ns sa gb,0,rfl,fun j hj=>absurd hj (Dd _)⟩ ?_ ?_
 ·rintro σ H' ⟨c5,c6,c7,y,d,C,Y,rfl,s',ed,ey,I,kk,ekk,nst⟩
  refine ⟨_,rfl, !(Y.map V.int).isEmpty,.inl ⟨_,SqL.of ey,rfl⟩,?_⟩
  by_cases hY:Y=[]
  ·have fin:=mT _ _ ⟨c5,c6,c7,dd,y,d,C,Y,rfl,hdd,s',ed,ey,I,.inl hY,kk,by rw [ekk],by rw [ekk]; exact .inl hY,nst⟩
   subst hY
   exact cI fin
  rw [show (!(Y.map V.int).isEmpty)=true by cases Y with | nil=>exact absurd rfl hY | cons a t=>rfl]
  refine bX ⟨_,rfl,_,rfl,dd,_,rfl,fE.k (k:=Sum.inl gb) ed,_,rfl,?_⟩
  rw [sq]
  by_cases hg:gb ∈ C.map (·.1)
  ·rw [decide_eq_true hg]
   exact cI (mT _ _ ⟨c5,c6,c7,dd,y,d,C,Y,rfl,hdd,s',ed,ey,I,.inr hg,kk,by rw [ekk],by rw [ekk]; exact .inr hg,nst⟩)
  rw [decide_eq_false hg]
  refine bX ⟨(by show 0<=sizeLine; decide),fun fu hfu => ?_⟩
  have hf0:=s'.free hfu
  have g3:=ae hfu (.lst [])
  have ef:upd H' fu (.lst []) fu=some (.lst (([]:List Int).map V.int)):=af
  have ed3:=g3 _ _ ed
  have ey3:=g3 _ _ ey
  have ndf:dd ≠ fu:=aD ed hfu
  have nyf:y ≠ fu:=aD ey hfu
  have s3:=s'.trans g3
  have nyd:y ≠ dd:=gK ey ed (by intro z; cases z)
  have mu0:2 * (m - uj H' dd) + yl [some (.ref n),some (.int sa),some (.int gb),some (.ref dd),some (.ref y),c5,c6,c7,none] H'=2 * (m - C.length) + 1:=by
   rw [jG ed,rf,yy ey,if_neg (by simpa using hY)]
  rw [mu0]
  generalize upd H' fu (.lst [])=H3 at g3 ef ed3 ey3 s3
  have kC:=kl I
  refine ⟨_,rfl,y,rfl,⟨_,SqL.of ey3⟩,fJ (xs:=Y.map V.int) (fun i σ H4=>∃ (c6 c7:Option V) (C4:List (Int × V)) (F4:List Int),σ=[some (.ref n),some (.int sa),some (.int gb),some (.ref dd),some (.ref y),some (.ref fu),c6,c7,none]/\aB H H4/\H4 dd=some (.dK (mp C4))/\H4 y=some (.lst (Y.map V.int))/\H4 fu=some (.lst (F4.map V.int))/\Rnd ns sa gb d C4 Y F4/\C4.length=C.length + F4.length/\(∀ p ∈ Y.take i,∀ o,stp ns sa gb p o->o ∈ C4.map (·.1))/\(Y.take i).foldl (zP (fV (os.map (·.2))) sa gb) (C,[])=(C4,F4))
   ⟨_,_,C,[],rfl,s3,ed3,ey3,ef,I,rfl,fun p hp=>by simp at hp,rfl⟩ (fun i σ H4 _ z => ?_) ?_ ?_⟩
  ·obtain ⟨_,_,_,_,_,_,_,e,_⟩:=z
   exact SqL.of e
  ·rintro i x σ H4 hx ⟨c6,c7,C4,F4,rfl,s4,ed4,ey4,ef4,I4,l4,cl4,fo4⟩
   obtain ⟨p,ep,rfl⟩:=jt hx
   have pY:=AY ep
   have pr:=((I4.rdy p).mp pY).1.rng O hs
   obtain ⟨pn,rfl⟩:∃ k:Nat,p=k:=⟨p.toNat,by omega⟩
   have N4:=N.same s4
   have pl:pn < os.length:=by rw [N.len]; omega
   obtain ⟨uu,eu⟩:∃ u,os[pn]? = some u:=⟨_,AO pl⟩
   have rowu:=N4.row _ (AY eu)
   have isu:=N.is pn _ eu
   have enb:fV (os.map (·.2)) (pn:Int)=uu.2:=by unfold fV; rw [BO,AZ,AX,eu]; rfl
   refine ⟨_,rfl,_,rfl,n,_,(pn:Int),_,rfl,rfl,SqL.of N4.at',cG (by rw [AX,eu]; rfl),uu.1,rfl,⟨_,SqL.of rowu⟩,fJ (xs:=uu.2.map V.int)
    (fun j σ H5=>∃ (c7:Option V) (C5:List (Int × V)) (F5:List Int),σ=[some (.ref n),some (.int sa),some (.int gb),some (.ref dd),some (.ref y),some (.ref fu),some (.int pn),c7,none]/\aB H H5/\H5 dd=some (.dK (mp C5))/\H5 y=some (.lst (Y.map V.int))/\H5 fu=some (.lst (F5.map V.int))/\Rnd ns sa gb d C5 Y F5/\C5.length=C.length + F5.length/\(∀ p ∈ Y.take i,∀ o,stp ns sa gb p o->o ∈ C5.map (·.1))/\(∀ o ∈ uu.2.take j,stp ns sa gb pn o->o ∈ C5.map (·.1))/\(uu.2.take j).foldl (inn sa gb pn) (C4,F4)=(C5,F5))
    ⟨_,C4,F4,rfl,s4,ed4,ey4,ef4,I4,l4,cl4,fun o ho=>by simp at ho,rfl⟩ (fun j σ H5 _ z => ?_) ?_ ?_⟩
   ·obtain ⟨_,_,_,_,s5,_⟩:=z
    exact SqL.of ((N.same s5).row _ (AY eu))
   ·rintro j x σ H5 hx ⟨c7,C5,F5,rfl,s5,ed5,ey5,ef5,I5,l5,cl5,tk5,fo5⟩
    obtain ⟨o,eo,rfl⟩:=jt hx
    have ao:Adj ns pn o:=(isu o).mp (AY eo)
    refine ⟨_,rfl,_,rfl,dd,_,rfl,fE.k (k:=Sum.inl o) ed5,_,rfl,?_⟩
    rw [sq]
    by_cases ho:o ∈ C5.map (·.1)
    ·rw [decide_eq_true ho]
     refine cI (cI ⟨_,C5,F5,rfl,s5,ed5,ey5,ef5,I5,l5,cl5,fun o' h' st => ?_,by rw [cP eo,fo5]; unfold inn; rw [if_pos (.inl ho)]⟩)
     rcases gE eo h' with z | z
     ·exact tk5 o' z st
     ·rw [z]; exact ho
    rw [decide_eq_false ho]
    have k5:=kl I5
    have hd:nP H5 dd (.int o) (.int pn) (upd H5 dd (.dK (putK (mp C5) (Sum.inl o) (.int pn)))):=nP.k (k:=Sum.inl o) ed5 (by rw [rf]; exact i7 (by omega))
    rw [vX ho] at hd
    have ed6:upd H5 dd (.dK (mp (C5 ++ [(o,.int pn)]))) dd=some (.dK (mp (C5 ++ [(o,.int pn)]))):=af
    have ef6:upd H5 dd (.dK (mp (C5 ++ [(o,.int pn)]))) fu=some (.lst (F5.map V.int)):=by rw [aE (BN ndf)]; exact ef5
    have ey6:upd H5 dd (.dK (mp (C5 ++ [(o,.int pn)]))) y=some (.lst (Y.map V.int)):=by rw [aE nyd]; exact ey5
    have s6:=aB.bG s5 hdd (.dK (mp (C5 ++ [(o,.int pn)])))
    generalize upd H5 dd (.dK (mp (C5 ++ [(o,.int pn)])))=H6 at hd ed6 ef6 ey6 s6
    have fin:stp ns sa gb pn o->∃ (c7:Option V) (C5:List (Int × V)) (F5':List Int),[some (.ref n),some (.int sa),some (.int gb),some (.ref dd),some (.ref y),some (.ref fu),some (.int pn),some (.int o),none]=[some (.ref n),some (.int sa),some (.int gb),some (.ref dd),some (.ref y),some (.ref fu),some (.int pn),c7,none]/\aB H (upd H6 fu (.lst (F5.map V.int ++ [.int o])))/\(upd H6 fu (.lst (F5.map V.int ++ [.int o]))) dd=some (.dK (mp C5))/\(upd H6 fu (.lst (F5.map V.int ++ [.int o]))) y=some (.lst (Y.map V.int))/\(upd H6 fu (.lst (F5.map V.int ++ [.int o]))) fu=some (.lst (F5'.map V.int))/\Rnd ns sa gb d C5 Y F5'/\C5.length=C.length + F5'.length/\(∀ p ∈ Y.take i,∀ o,stp ns sa gb p o->o ∈ C5.map (·.1))/\(∀ o ∈ uu.2.take (j + 1),stp ns sa gb pn o->o ∈ C5.map (·.1))/\(uu.2.take (j + 1)).foldl (inn sa gb pn) (C4,F4)=(C5,F5'):=fun st=>by
     refine ⟨_,C5 ++ [(o,.int pn)],F5 ++ [o],rfl,aB.bG s6 hf0 _,by rw [aE ndf]; exact ed6,by rw [aE nyf]; exact ey6,by rw [af,A4]; rfl,I5.add pY st ho,by rw [AQ,AQ,l5]; rfl,fun p' hp' o' st' => ?_,fun o' h' st' => ?_,by rw [cP eo,fo5]; unfold inn; rw [if_neg (fun z=>z.elim ho fun y=>y st.2)]⟩
     ·rw [A4]; exact Bp _ (cl5 p' hp' o' st')
     ·rw [A4]
      rcases gE eo h' with z | z
      ·exact Bp _ (tk5 o' z st')
      ·rw [z]; exact Bi _ (by simp)
    have lf:F5.length<=400:=by omega
    refine bX ⟨_,rfl,_,rfl,rfl,_,rfl,ia (fun z => ?_) fun z=>⟨_,rfl,_,rfl,rfl,_,rfl,ia (fun z2 => ?_) fun z2 => ?_⟩⟩
    ·have h1:(pn:Int) ≠ sa:=by simpa using z
     exact bX ⟨_,rfl,_,rfl,_,rfl,dd,_,rfl,hd,_,rfl,.inl ⟨rfl,_,SqL.of ef6⟩,_,rfl,fu,_,_,rfl,rfl,ef6,by rw [AM]; exact i7 (by omega),fin ⟨ao,.inl h1⟩⟩
    ·have h1:o ≠ gb:=by simpa using z2
     exact ⟨_,rfl,_,rfl,_,rfl,dd,_,rfl,hd,_,rfl,.inl ⟨rfl,_,SqL.of ef6⟩,_,rfl,fu,_,_,rfl,rfl,ef6,by rw [AM]; exact i7 (by omega),fin ⟨ao,.inr h1⟩⟩
    ·have h1:(pn:Int)=sa:=by simpa using z
     have h2:o=gb:=by simpa using z2
     refine ⟨_,C5,F5,rfl,s5,ed5,ey5,ef5,I5,l5,cl5,fun o' h' st => ?_,by rw [cP eo,fo5]; unfold inn; rw [if_pos (.inr (fun z=>z.elim (fun y=>y h1) fun y=>y h2))]⟩
     rcases gE eo h' with y' | y'
     ·exact tk5 o' y' st
     ·subst y'
      exact absurd st.2 (by simp [h1,h2])
   ·rintro σ H5 ⟨c7,C5,F5,rfl,s5,ed5,ey5,ef5,I5,l5,cl5,tk5,fo5⟩
    rw [AM,A7 (AS _)] at tk5 fo5
    refine ⟨_,_,C5,F5,rfl,s5,ed5,ey5,ef5,I5,l5,fun p' hp' o st => ?_,by rw [cP ep,fo4]; unfold zP; rw [enb]; exact fo5⟩
    rcases gE ep hp' with z | z
    ·exact cl5 p' z o st
    ·subst z
     exact tk5 o ((isu o).mpr st.1) st
  ·rintro σ H4 ⟨c6,c7,C4,F4,rfl,s4,ed4,ey4,ef4,I4,l4,cl4,fo4⟩
   rw [AM,A7 (AS _)] at cl4 fo4
   have I5:=I4.next cl4
   have k4:=kl I4
   refine ⟨_,rfl,⟨_,_,_,fu,d + 1,C4,F4,rfl,s4,ed4,ef4,I5,kk + 1,by show (itW _ sa gb kk).2.foldl _ ((itW _ sa gb kk).1,[])=_; rw [ekk]; exact fo4,fun j hj => ?_⟩,?_⟩
   ·rcases Cp j kk with c | c
    ·exact nst j c
    ·rw [show j=kk by omega,ekk]
     exact fun z=>z.elim hY hg
   show 2 * (m - uj H4 dd) + yl [some (.ref n),some (.int sa),some (.int gb),some (.ref dd),some (.ref fu),some (.ref fu),c6,c7,none] H4 < _
   rw [jG ed4,rf,yy ef4]
   by_cases hF:F4=[]
   ·subst hF; rw [if_pos (show List.map V.int []=[] from rfl),l4]; show 2 * (m - (C.length + 0)) + 0 < _; omega
   ·rw [if_neg (by simpa using hF),l4]
    have:=Cz.mpr hF
    omega
 ·rintro σ H Q Q' h ⟨v,e,k,t,q⟩
  refine ⟨v,e,k,t,?_⟩
  cases k with
  | false=>exact h _ _ q
  | true =>
   obtain ⟨v,e,v2,e2,a,o,e3,g,c,e4,q⟩:=q
   exact ⟨v,e,v2,e2,a,o,e3,g,c,e4,h _ _ q⟩
end
open PySem L2
def lL (ns:List (List Int)) (a b:Int):Prop:=a ≠ b/\ns.count [a,b] < 2/\∀ k,¬ Wk (stp ns a b) a k b
def Al (ns:List (List Int)) (a b:Int) (Z:List Int):Prop:=(a=b/\Z=[a])\/(a ≠ b/\2<=ns.count [a,b]/\Z=[a,b])\/(a ≠ b/\ns.count [a,b] < 2/\∃ N,Way ns a b N Z)
def AlD (nb:Int->List Int) (ns:List (List Int)) (a b:Int) (Z:List Int):Prop:=(a=b/\Z=[a])\/(a ≠ b/\2<=ns.count [a,b]/\Z=[a,b])\/(a ≠ b/\ns.count [a,b] < 2/\v3 nb a b Z)
theorem AlD.uniq {nb:Int->List Int} {ns:List (List Int)} {a b:Int} {Z Z':List Int} (h:AlD nb ns a b Z) (h':AlD nb ns a b Z'):Z=Z':=by
 rcases h with ⟨e,rfl⟩ | ⟨ne,c2,rfl⟩ | ⟨ne,c2,w⟩ <;> rcases h' with ⟨e',rfl⟩ | ⟨ne',c2',rfl⟩ | ⟨ne',c2',w'⟩
 ·rfl
 ·exact absurd e ne'
 ·exact absurd e ne'
 ·exact absurd e' ne
 ·rfl
 ·omega
 ·exact absurd e' ne
 ·omega
 ·exact w.uniq w'
theorem mW {H:Hp} {r:Addr} {m:Nat} {ts:List (Addr × List Int)} (W:Wb H r m ts):Ok m (ts.map (·.2)):=fun p hp=>by
 obtain ⟨u,hu,rfl⟩:=Bc.mp hp
 exact W.pr u hu
theorem Al.ring {m:Nat} {ns:List (List Int)} (O:Ok m ns) {a b:Int} (hp:[a,b] ∈ ns) {Z:List Int} (h:Al ns a b Z):Ring m ns Z:=by
 obtain ⟨_,_,e,a0,ab,bm⟩:=O _ hp
 cases e
 rcases h with ⟨rfl,rfl⟩ | ⟨ne,c2,rfl⟩ | ⟨ne,c2,N,w⟩
 ·refine ⟨by simp,by simp,fun v hv => ?_,?_,fun x y e=>by simp at e⟩
  ·rw [AV] at hv; subst hv; exact ⟨a0,bm⟩
  ·show nrm a a ∈ ns/\True
   rw [cg ab]; exact ⟨hp,trivial⟩
 ·refine ⟨by simp,by simp [ne],fun v hv => ?_,?_,fun x y e => ?_⟩
  ·rcases A6.mp hv with z | z
   ·subst z; exact ⟨a0,by omega⟩
   ·rw [AV] at z; subst z; exact ⟨by omega,bm⟩
  ·show nrm a b ∈ ns/\nrm b a ∈ ns/\True
   rw [cu b a,cg ab]; exact ⟨hp,hp,trivial⟩
  ·cases e; rw [cg ab]; exact c2
 ·exact w.ring O ne ⟨a0,by omega⟩ (by unfold Td; rw [cg ab]; exact hp)
abbrev pP:Sp:=fun vs H Q _=>∃ (r n t:Addr) (m:Nat) (ts os:List (Addr × List Int)) (a b:Int),vs=[.ref r,.ref n,.ref t]/\Wb H r m ts/\i5 H n m (ts.map (·.2)) os/\m<=400/\H t=some (.tup [.int a,.int b])/\[a,b] ∈ ts.map (·.2)/\(∀ H',aB H H'->lL (ts.map (·.2)) a b->Q .non H')/\∀ (z:Addr) (H':Hp) (Z:List Int),aB H H'->H' z=some (.tup (Z.map V.int))->Al (ts.map (·.2)) a b Z->AlD (fV (os.map (·.2))) (ts.map (·.2)) a b Z->Q (.ref z) H'
@[irreducible] def iC:Sp:=pP
theorem fW {vs:List V} {H:Hp} {Q:VK} {E:XK}:iC vs H Q E ↔ pP vs H Q E:=by
 delta iC
 exact CS
section
variable {P:Program} {w:World} {K:PySem.W.Frag} {mg:Str->Option Value} {base:Heap} {f T:Addr} {fd:FuncData}
theorem pQ:aW ["web", "near", "tie"] ["web", "near", "tie"] (az cW):=⟨rfl,rfl,rfl,by decide +kernel,rfl,by decide +kernel,by decide +kernel⟩
theorem pR (F:Fun K "ring_along" "ring_along" cW f fd) (B:Blt mg) (cWayAbout:Cal P w K mg base 1 "way_about" ["near", "start", "goal"] pO) (cTiedTimes:Cal P w K mg base 2 "tied_times" ["web", "one", "other"] dY):cB P w K mg base CX0 3 f fd ["web", "near", "tie"] iC:=by
 refine F.ok pQ (fun vs H Q E h => ?_) (fun cdv A outer s H vs Q E hr h => ?_)
 ·obtain ⟨_,_,_,_,_,_,_,_,rfl,_⟩:=fW.mp h
  rfl
 obtain ⟨r,n,t,m,ts,os,a,b,rfl,W,N,m4,et,hp,q0,q1⟩:=fW.mp h
 refine ⟨_,(@ah _ _ _ _ _ (@bL _ _ _ _ _ _ _ _ (aO dG (@aN _ _ _ _ _ _ _ aM (pv 2) ai (fun _ _=>rfl)) (@aN _ _ _ _ _ _ _ aM (pv 2) ai (fun _ _=>rfl)) (aR _)) (@au _ _ _ (@aS _ _ _ _ (@bD _ _ _ _ _ (@aa _ _ _ _ _ (@aN _ _ _ _ _ _ _ aM (pv 2) ai (fun _ _=>rfl)) ag rfl)))) aV)
  (@ah _ _ _ _ _ (@bL _ _ _ _ _ _ _ _ (aO uK (bz cTiedTimes hr (by decide) rfl (@aa _ _ _ _ _ (pv 0) (@aa _ _ _ _ _ (@aN _ _ _ _ _ _ _ aM (pv 2) ai (fun _ _=>rfl)) (@aa _ _ _ _ _ (@aN _ _ _ _ _ _ _ aM (pv 2) ai (fun _ _=>rfl)) ag rfl) rfl) rfl)) ai (aR _)) (@au _ _ _ (@aS _ _ _ _ (pv 2))) aV)
  (@au _ _ _ (@aS _ _ _ _ (bz cWayAbout hr (by decide) rfl (@aa _ _ _ _ _ (pv 1) (@aa _ _ _ _ _ (@aN _ _ _ _ _ _ _ aM (pv 2) ai (fun _ _=>rfl)) (@aa _ _ _ _ _ (@aN _ _ _ _ _ _ _ aM (pv 2) ai (fun _ _=>rfl)) ag rfl) rfl) rfl)))))),?_⟩
 have O:=mW W
 obtain ⟨_,_,e,a0,ab,bm⟩:=O _ hp
 cases e
 refine ⟨_,rfl,t,_,0,_,rfl,rfl,SqT.of et,rfl,_,rfl,t,_,1,_,rfl,rfl,SqT.of et,rfl,rfl,_,rfl,ia (fun z => ?_) fun z => ?_⟩
 ·have eq:a=b:=by simpa using z
  exact ⟨_,rfl,t,_,0,_,rfl,rfl,SqT.of et,rfl,(by show 1<=sizeLine; decide),fun z hz=>q1 z _ [a] (ae hz _) af (.inl ⟨eq,rfl⟩) (.inl ⟨eq,rfl⟩)⟩
 have ne:a ≠ b:=by simpa using z
 refine ⟨_,rfl,_,rfl,t,_,0,_,rfl,rfl,SqT.of et,rfl,_,rfl,t,_,1,_,rfl,rfl,SqT.of et,rfl,cv.mpr ⟨r,m,a,b,ts,rfl,W,fun H1 s1 => ?_⟩⟩
 rw [cg ab]
 refine ⟨_,_,rfl,rfl,_,rfl,ia (fun z => ?_) fun z => ?_⟩
 ·have c2:2<=(ts.map (·.2)).count [a,b]:=by have z':=of_decide_eq_true z; omega
  exact ⟨_,rfl,q1 t H1 [a,b] s1 (s1 _ _ et) (.inr (.inl ⟨ne,c2,rfl⟩)) (.inr (.inl ⟨ne,c2,rfl⟩))⟩
 have c2:(ts.map (·.2)).count [a,b] < 2:=by have z':=of_decide_eq_false (eq_false_of_ne_true z); omega
 refine ⟨_,rfl,_,rfl,t,_,0,_,rfl,rfl,SqT.of (s1 _ _ et),rfl,_,rfl,t,_,1,_,rfl,rfl,SqT.of (s1 _ _ et),rfl,i8.mpr ⟨n,m,_,os,a,b,rfl,N.same s1,O,m4,⟨a0,by omega⟩,ne,fun H2 s2 no=>q0 H2 (s1.trans s2) ⟨ne,c2,no⟩,fun z H2 NN Z s2 ez w wd=>q1 z H2 Z (s1.trans s2) ez (.inr (.inr ⟨ne,c2,NN,w⟩)) (.inr (.inr ⟨ne,c2,wd⟩))⟩⟩
end
def enc:Option (Addr × List Int)->V
 | none => .non
 | some u => .ref u.1
def keep (ws:List (Option (Addr × List Int))):List (Addr × List Int):=ws.filterMap id
def v7 (l:List (List Int)) (Z:List Int):Prop:=∃ i:Nat,l[i]? = some Z/\(∀ u ∈ l,Z.length<=u.length)/\∀ (j:Nat) u,j < i->l[j]? = some u->Z.length < u.length
theorem v7.uniq {l:List (List Int)} {Z Z':List Int} (h:v7 l Z) (h':v7 l Z'):Z=Z':=by
 obtain ⟨i,e,mn,fi⟩:=h
 obtain ⟨i',e',mn',fi'⟩:=h'
 have h1:=mn Z' (AY e')
 have h2:=mn' Z (AY e)
 rcases Ef i i' with z | z | z
 ·have:=fi' i Z z e; omega
 ·subst z; rw [e] at e'; exact Bb e'
 ·have:=fi i' Z' z e'; omega
theorem iD {ws:List (Option (Addr × List Int))} {u:Addr × List Int}:u ∈ keep ws ↔ some u ∈ ws:=by
 unfold keep
 rw [D1]
 exact ⟨fun ⟨a,h,e⟩=>by rw [<- show a=some u from e]; exact h,fun h=>⟨some u,h,rfl⟩⟩
abbrev pS:Sp:=fun vs H Q _=>∃ (l:Addr) (ws:List (Option (Addr × List Int))),vs=[.ref l]/\H l=some (.lst (ws.map enc))/\(∀ u,some u ∈ ws->H u.1=some (.tup (u.2.map V.int)))/\ws.length<=1000/\(∀ H',aB H H'->(∀ x ∈ ws,x=none)->Q .non H')/\∀ (u:Addr × List Int) (H':Hp),aB H H'->some u ∈ ws->(∀ v,some v ∈ ws->u.2.length<=v.2.length)->v7 ((keep ws).map (·.2)) u.2->Q (.ref u.1) H'
@[irreducible] def iE:Sp:=pS
theorem fX {vs:List V} {H:Hp} {Q:VK} {E:XK}:iE vs H Q E ↔ pS vs H Q E:=by
 delta iE
 exact CS
section
variable {P:Program} {w:World} {K:PySem.W.Frag} {mg:Str->Option Value} {base:Heap} {f T:Addr} {fd:FuncData}
theorem og:aW ["ways"] ["ways"] (az cN):=⟨rfl,rfl,rfl,by decide +kernel,rfl,by decide +kernel,by decide +kernel⟩
theorem i9:(["way"]:List Str).Nodup:=by decide +kernel
theorem oh (F:Fun K "shortest_of" "shortest_of" cN f fd) (B:Blt mg):cB P w K mg base CX0 1 f fd ["ways"] iE:=by
 refine F.ok og (fun vs H Q E h => ?_) (fun cdv A outer s H vs Q E hr h => ?_)
 ·obtain ⟨_,_,rfl,_⟩:=fX.mp h
  rfl
 obtain ⟨l,ws,rfl,el,tu,l9,q0,q1⟩:=fX.mp h
 refine ⟨_,(@au _ _ _ (@aS _ _ _ _ (qZ rfl rfl B.b_min rfl B.b_len d9 (cw ["way"] [none] rfl (@cj _ _ _ _ (pv 0)) rfl (fun _ _ _ _ _=>(ak (i:=0) i9 rfl (Or.inl rfl))) (fun _ _ _ _ _=>(uS (aO rF (pv 0) iJ (aR _)))) (fun _ _ _ _ _=>(pv 0)))))),?_⟩
 refine ⟨_,rfl,l,rfl,⟨_,SqL.of el⟩,cq (xs:=ws.map enc) (fun i ys H'=>H'=H/\ys=(keep (ws.take i)).map fun u => .ref u.1) ⟨rfl,rfl⟩ (by rw [AM]; exact small l9) (fun i ys H' _ z=>by rw [z.1]; exact SqL.of el) ?_ ?_⟩
 ·rintro i x ys H3 hx hy ⟨eH,rfl⟩ R1 R0 r1 r0
  rw [AX] at hx
  cases z:ws[i]? with
  | none=>rw [z] at hx; cases hx
  | some o =>
   rw [z] at hx
   have hx:enc o=x:=Bb hx
   subst hx
   cases o with
   | none =>
    refine ⟨_,rfl,rfl,_,rfl,cI (r0 _ ⟨eH,?_⟩)⟩
    unfold keep
    rw [BU,z,FE]
    show _=((ws.take i).filterMap id ++ []).map _
    rw [BM]
   | some u =>
    refine ⟨_,rfl,rfl,_,rfl,bX ⟨_,rfl,r1 _ _ ⟨eH,?_⟩⟩⟩
    unfold keep
    rw [BU,z,FE,A4]; rfl
 ·rintro ys H3 hy ⟨eH,rfl⟩ l2 hl2
  rw [eH] at hl2 ⊢
  rw [AM,A7 (AS _)]
  have g2:=ae hl2 (.lst ((keep ws).map fun u => .ref u.1))
  refine ⟨l2,keep ws,rfl,SqL.of af,fun t ht=>SqT.of (g2 _ _ (tu t (iD.mp ht))),fun z=>q0 _ g2 fun x hx => ?_,fun i t et mn fi=>q1 t _ g2 (iD.mp (AY et)) (fun v hv=>mn v (iD.mpr hv)) ⟨i,by rw [AX,et]; rfl,fun u hu => ?_,fun j u hj eu => ?_⟩⟩
  rotate_left
  ·obtain ⟨v,hv,rfl⟩:=Bc.mp hu
   exact mn v hv
  ·rw [AX] at eu
   obtain ⟨v,ev,rfl⟩:=Cr.mp eu
   exact fi j v hj ev
  cases x with
  | none=>rfl
  | some u =>
   have:=iD.mpr hx
   rw [z] at this; cases this
end
open PySem L2
def zQ (ns:List (List Int)) (p:List Int) (o:Option (Addr × List Int)):Prop:=∀ a b:Int,p=[a,b]->(o=none/\lL ns a b)\/∃ u,o=some u/\Al ns a b u.2
def mX (nb:Int->List Int) (ns:List (List Int)) (p:List Int) (o:Option (List Int)):Prop:=∀ a b:Int,p=[a,b]->(o=none/\lL ns a b)\/∃ Z,o=some Z/\Al ns a b Z/\AlD nb ns a b Z
theorem lL.AJ {ns:List (List Int)} {a b:Int} (h:lL ns a b) {Z:List Int} (h':Al ns a b Z):False:=by
 rcases h' with ⟨e,rfl⟩ | ⟨ne,c2,rfl⟩ | ⟨ne,c2,N,w⟩
 ·exact h.1 e
 ·have:=h.2.1; omega
 ·exact h.2.2 N ((w.1.dst 0 b w.1.hd).2.1)
theorem mX.uniq {nb:Int->List Int} {ns:List (List Int)} {a b:Int} {o o':Option (List Int)} (h:mX nb ns [a,b] o) (h':mX nb ns [a,b] o'):o=o':=by
 rcases h a b rfl with ⟨e,n⟩ | ⟨Z,e,al,d⟩ <;> rcases h' a b rfl with ⟨e',n'⟩ | ⟨Z',e',al',d'⟩
 ·rw [e,e']
 ·exact (n.AJ al').elim
 ·exact (n'.AJ al).elim
 ·rw [e,e',d.uniq d']
def kR (m:Nat) (ns rows:List (List Int)):Prop:=rows.length=m/\∀ (j:Nat) r,rows[j]? = some r->r.Pairwise (· < ·)/\∀ x,x ∈ r ↔ x ∈ nbs ns (j:Int)
theorem kR.uniq {m:Nat} {ns rows rows':List (List Int)} (h:kR m ns rows) (h':kR m ns rows'):rows=rows':=by
 apply Cy
 intro j
 rcases Cp j m with c | c
 ·have e1:rows[j]? = some (rows[j]'(by have:=h.1; omega)):=AO _
  have e2:rows'[j]? = some (rows'[j]'(by have:=h'.1; omega)):=AO _
  have a:=h.2 j _ e1
  have b:=h'.2 j _ e2
  rw [e1,e2,i4 a.1 b.1 fun x=>(a.2 x).trans (b.2 x).symm]
 ·rw [Bl (by have:=h.1; omega),Bl (by have:=h'.1; omega)]
def xW (ns out:List (List Int)):Prop:=out.Nodup/\(∀ t,t ∈ out ↔ t ∈ ns)/\out.Pairwise fun a b=>HT.lexLt b a=false
theorem v8 {l l':List (List Int)} (h:l.Nodup) (h':l'.Nodup) (e:∀ t,t ∈ l ↔ t ∈ l'):l.Perm l':=by
 rw [List.perm_iff_count]
 intro a
 have c1:=FJ.mp h a
 have c2:=FJ.mp h' a
 have:=e a
 rw [<- BW, <- BW] at this
 omega
theorem xW.uniq {ns out out':List (List Int)} (h:xW ns out) (h':xW ns out'):out=out':=by
 refine List.Perm.eq_of_pairwise (le:=fun a b=>HT.lexLt b a=false) (fun a b _ _ h1 h2=>Srt.eI _ _ h2 h1) h.2.2 h'.2.2 ?_
 exact v8 h.1 h'.1 fun t=>(h.2.1 t).trans (h'.2.1 t).symm
def ja (m:Nat) (ns all:List (List Int)) (F:List Int):Prop:=∃ (rows out:List (List Int)) (ws:List (Option (List Int))) (Z:List Int) (M:Int),kR m ns rows/\xW all out/\ws.length=out.length/\(∀ (k:Nat) t o,out[k]? = some t->ws[k]? = some o->mX (fV rows) ns t o)/\v7 (ws.filterMap id) Z/\M ∈ Z/\(∀ b ∈ Z,M<=b)/\F=frm Z M
theorem ja.uniq {m:Nat} {ns all:List (List Int)} (pr:∀ t ∈ all,∃ a b:Int,t=[a,b]) {F F':List Int} (h:ja m ns all F) (h':ja m ns all F'):F=F':=by
 obtain ⟨rows,out,ws,Z,M,r,o,l,te,fm,hM,mM,e⟩:=h
 obtain ⟨rows',out',ws',Z',M',r',o',l',te',fm',hM',mM',e'⟩:=h'
 have:=r.uniq r'
 subst this
 have:=o.uniq o'
 subst this
 have:ws=ws':=by
  apply Cy
  intro k
  rcases Cp k out.length with c | c
  ·have eo:out[k]? = some out[k]:=AO c
   have e1:ws[k]? = some (ws[k]'(by omega)):=AO _
   have e2:ws'[k]? = some (ws'[k]'(by omega)):=AO _
   obtain ⟨a,b,ab⟩:=pr out[k] ((o.2.1 _).mp (AY eo))
   have t1:=te k _ _ eo e1
   have t2:=te' k _ _ eo e2
   rw [ab] at t1 t2
   rw [e1,e2,t1.uniq t2]
  ·rw [Bl (by omega),Bl (by omega)]
 subst this
 have:=fm.uniq fm'
 subst this
 have:M=M':=Int.le_antisymm (mM M' hM') (mM' M hM)
 subst this
 rw [e,e']
abbrev v9:Sp:=fun vs H Q _=>∃ (r t:Addr) (m:Nat) (ts us:List (Addr × List Int)),vs=[.ref r,.ref t]/\Wb H r m ts/\m<=400/\(H t=some (.lst (us.map fun u => .ref u.1))\/H t=some (.tup (us.map fun u => .ref u.1)))/\(∀ u ∈ us,u ∈ ts)/\us.length<=200/\(∀ H',aB H H'->(∀ u ∈ us,∀ a b,u.2=[a,b]->lL (ts.map (·.2)) a b)->Q .non H')/\∀ (z:Addr) (H':Hp) (Z:List Int) (M:Int),aB H H'->H' z=some (.tup ((frm Z M).map V.int))->M ∈ Z->(∀ b ∈ Z,M<=b)->(∃ u ∈ us,∃ a b,u.2=[a,b]/\Al (ts.map (·.2)) a b Z)->(∀ u ∈ us,∀ a b,u.2=[a,b]->lL (ts.map (·.2)) a b\/∃ Z',Al (ts.map (·.2)) a b Z'/\Z.length<=Z'.length)->ja m (ts.map (·.2)) (us.map (·.2)) (frm Z M)->Q (.ref z) H'
@[irreducible] def pW:Sp:=v9
theorem jb {vs:List V} {H:Hp} {Q:VK} {E:XK}:pW vs H Q E ↔ v9 vs H Q E:=by
 delta pW
 exact CS
section
variable {P:Program} {w:World} {K:PySem.W.Frag} {mg:Str->Option Value} {base:Heap} {f T:Addr} {fd:FuncData}
theorem fA:aW ["web", "ties", "near", "least"] ["web", "ties"] (az cO):=⟨rfl,rfl,rfl,by decide +kernel,rfl,by decide +kernel,by decide +kernel⟩
theorem dQ:(["tie", "web", "near"]:List Str).Nodup:=by decide +kernel
theorem oj (F:Fun K "least_along" "least_along" cO f fd) (B:Blt mg) (cNearLists:Cal P w K mg base 1 "near_lists" ["web"] gD) (cShortestOf:Cal P w K mg base 1 "shortest_of" ["ways"] iE) (cRingForm:Cal P w K mg base 1 "ring_form" ["ring"] kQ) (cRingAlong:Cal P w K mg base 3 "ring_along" ["web", "near", "tie"] iC):cB P w K mg base CX0 4 f fd ["web", "ties"] pW:=by
 refine F.ok fA (fun vs H Q E h => ?_) (fun cdv A outer s H vs Q E hr h => ?_)
 ·obtain ⟨_,_,_,_,_,rfl,_⟩:=jb.mp h
  rfl
 obtain ⟨r,t,m,ts,us,rfl,W,m4,ht,hin,l2,q0,q1⟩:=jb.mp h
 refine ⟨_,(@ah _ _ _ _ _ (@aQ _ _ 2 _ _ _ _ fA.nd rfl (Or.inr rfl) (bz cNearLists hr (by decide) rfl (@aa _ _ _ _ _ (pv 0) ag rfl)) rfl (by first | exact .inl rfl | exact .inr rfl | assumption))
  (@ah _ _ _ _ _ (@aQ _ _ 3 _ _ _ _ fA.nd rfl (Or.inl rfl) (bz cShortestOf hr (by decide) rfl (@aa _ _ _ _ _ (cw ["tie", "web", "near"] [none,some 0,some 2] rfl (@cj _ _ _ _ (aq (fN (w:=w) rfl hr.hd) rfl B.b_sorted cZ (@aa _ _ _ _ _ (aI (ko (w:=w) rfl hr.hd hr.units) rfl B.b_set vP (@aa _ _ _ _ _ (pv 1) ag rfl)) ag rfl))) rfl (fun _ _ _ _ _=>(ak (i:=0) dQ rfl (Or.inl rfl))) (fun _ _ _ _ _=>cC) (fun _ _ _ _ _=>(bz cRingAlong hr (by decide) rfl (@aa _ _ _ _ _ (pv 1) (@aa _ _ _ _ _ (pv 2) (@aa _ _ _ _ _ (pv 0) ag rfl) rfl) rfl)))) ag rfl)) rfl (by first | exact .inl rfl | exact .inr rfl | assumption))
  (@ah _ _ _ _ _ (@bL _ _ _ _ _ _ _ _ (aO yT (pv 3) iJ (aR _)) (@au _ _ _ (@aS _ _ _ _ iJ)) aV)
  (@au _ _ _ (@aS _ _ _ _ (bz cRingForm hr (by decide) rfl (@aa _ _ _ _ _ (pv 3) ag rfl))))))),?_⟩
 have O:=mW W
 refine ⟨_,rfl,dW.mpr ⟨r,m,ts,rfl,W,by omega,by omega,fun n H1 os s1 en lo ro iso => ?_⟩⟩
 have RD:kR m (ts.map (·.2)) (os.map (·.2)):=⟨by rw [AM,lo]; omega,fun j r e=>by
  rw [AX] at e
  obtain ⟨u,eu,rfl⟩:=Cr.mp e
  exact iso j u eu⟩
 have NA:i5 H1 n m (ts.map (·.2)) os:=⟨en,by rw [lo]; omega,ro,fun j u e=>(iso j u e).2⟩
 have tu1:∀ u ∈ us,H1 u.1=some (.tup (u.2.map V.int)):=fun u hu=>s1 _ _ (W.tup u (hin u hu))
 refine ⟨_,rfl,t,us,rfl,ht.elim (fun z => .inl (SqL.of (s1 _ _ z))) (fun z => .inr (SqT.of (s1 _ _ z))),fun u hu=>SqT.of (tu1 u hu),by omega,fun a ss hna mu ndu cov hlu => ?_⟩
 have ga:=ae hna (d8 w a (ss.map fun t => .ref t.1))
 refine ⟨a,ss,rfl,af,fun u hu=>⟨SqT.of (ga _ _ (tu1 u (mu u hu))),fun z => ?_⟩,by omega,fun l out hl pm ps => ?_⟩
 ·obtain ⟨x,y,e,_⟩:=W.pr u (hin u (mu u hu))
  rw [z] at e; cases e
 have gl:=ga.trans (ae hl (.lst (out.map fun t => .ref t.1)))
 have el:upd (upd H1 a (d8 w a (ss.map fun t => .ref t.1))) l (.lst (out.map fun t => .ref t.1)) l=some (.lst (out.map fun t => .ref t.1)):=af
 generalize upd (upd H1 a (d8 w a (ss.map fun t => .ref t.1))) l (.lst (out.map fun t => .ref t.1))=H2 at gl el
 have s2:=s1.trans gl
 have lo2:out.length<=200:=by rw [pm.length_eq]; omega
 have oin:∀ u ∈ out,u ∈ us:=fun u hu=>mu u (pm.mem_iff.mp hu)
 refine ⟨l,rfl,⟨_,SqL.of el⟩,cq (xs:=out.map fun u => .ref u.1) (fun i ys H'=>aB H2 H'/\∃ ws:List (Option (Addr × List Int)),ys=ws.map enc/\ws.length=i/\(∀ u,some u ∈ ws->H' u.1=some (.tup (u.2.map V.int)))/\∀ (k:Nat) u o,out[k]? = some u->ws[k]? = some o->zQ (ts.map (·.2)) u.2 o/\mX (fV (os.map (·.2))) (ts.map (·.2)) u.2 (o.map (·.2))) ⟨aB.refl _,[],rfl,rfl,fun u h=>by (cases h),fun k u o _ e=>by simp at e⟩ (by rw [AM]; exact small (by omega)) (fun i ys H' _ z=>SqL.of (z.1 _ _ el)) ?_ ?_⟩
 ·rintro i x ys H3 hx hy ⟨s3,ws,rfl,lw,tw,tl⟩ R1 R0 r1 r0
  obtain ⟨u,eu,rfl⟩:=item hx
  have uin:=hin u (oin u (AY eu))
  obtain ⟨x,y,exy,_⟩:=W.pr u uin
  have s23:=s2.trans s3
  have eu3:H3 u.1=some (.tup [.int x,.int y]):=by rw [s23 _ _ (W.tup u uin),exy]; rfl
  have up:∀ (o:Option (Addr × List Int)) (H4:Hp),aB H3 H4->(∀ v,o=some v->H4 v.1=some (.tup (v.2.map V.int)))->zQ (ts.map (·.2)) u.2 o/\mX (fV (os.map (·.2))) (ts.map (·.2)) u.2 (o.map (·.2))->R1 (enc o) H4:=fun o H4 s4 ho hT=>by
   refine r1 _ _ ⟨s3.trans s4,ws ++ [o],by rw [A4]; rfl,by rw [AQ,lw]; rfl,fun v hv => ?_,fun k v p e1 e2 => ?_⟩
   ·rcases A2.mp hv with z | z
    ·exact s4 _ _ (tw v z)
    ·rw [AV] at z; exact ho v z.symm
   ·rcases Cp k i with c | c
    ·rw [Bf (by omega)] at e2; exact tl k v p e1 e2
    ·rw [Bk (by omega)] at e2
     have:k - ws.length=0:=by
      rcases C0 (k - ws.length) with z | z
      ·exact z
      ·rw [Bl (by simp; omega)] at e2; cases e2
     rw [this] at e2; cases e2
     rw [show k=i by omega,eu] at e1; cases e1
     exact hT
  refine bX ⟨_,rfl,_,rfl,_,rfl,fW.mpr ⟨r,n,u.1,m,ts,os,x,y,rfl,W.same s23,NA.same (gl.trans s3),m4,eu3,by rw [<- exy]; exact BK (f:=(·.2)) uin,fun H4 s4 no=>up none H4 s4 (fun v e=>by cases e) ⟨fun a b e => ?_,fun a b e => ?_⟩,fun z H4 Z s4 ez al ald=>up (some (z,Z)) H4 s4 (fun v e=>by cases e; exact ez) ⟨fun a b e => ?_,fun a b e => ?_⟩⟩⟩
  ·rw [exy] at e; cases e; exact .inl ⟨rfl,no⟩
  ·rw [exy] at e; cases e; exact .inl ⟨rfl,no⟩
  ·rw [exy] at e; cases e; exact .inr ⟨_,rfl,al⟩
  ·rw [exy] at e; cases e; exact .inr ⟨_,rfl,al,ald⟩
 ·rintro ys H3 hy ⟨s3,ws,rfl,lw,tw,tl⟩ l3 hl3
  rw [AM] at lw
  have g4:=ae hl3 (.lst (ws.map enc))
  have el4:upd H3 l3 (.lst (ws.map enc)) l3=some (.lst (ws.map enc)):=af
  generalize upd H3 l3 (.lst (ws.map enc))=H4 at g4 el4
  have s4:=s2.trans (s3.trans g4)
  have tell:∀ u ∈ us,∃ o ∈ ws,zQ (ts.map (·.2)) u.2 o:=fun u hu=>by
   obtain ⟨v,hv,ev⟩:=Bc.mp (cov u hu)
   obtain ⟨k,ek⟩:=Bt.mp (pm.mem_iff.mpr hv)
   have kl:=(AU.mp ek).1
   have ew:ws[k]? = some (ws[k]'(by omega)):=AO (by omega)
   exact ⟨_,AY ew,ev ▸ (tl k v _ ek ew).1⟩
  refine fX.mpr ⟨l3,ws,rfl,el4,fun u hu=>g4 _ _ (tw u hu),by omega,fun H5 s5 no => ?_,fun u H5 s5 hu mn fm => ?_⟩
  ·refine ⟨_,rfl,rfl,_,rfl,bX (q0 H5 (s4.trans s5) fun u hu a b e => ?_)⟩
   obtain ⟨o,ho,hT⟩:=tell u hu
   rw [no o ho] at hT
   rcases hT a b e with ⟨_,z⟩ | ⟨v,e2,_⟩
   ·exact z
   ·cases e2
  ·refine ⟨_,rfl,rfl,_,rfl,cI ?_⟩
   obtain ⟨k,ek⟩:=Bt.mp hu
   have kl:=(AU.mp ek).1
   have ev:out[k]? = some (out[k]'(by omega)):=AO (by omega)
   have vin:=oin _ (AY ev)
   obtain ⟨x,y,exy,_⟩:=W.pr _ (hin _ vin)
   rcases (tl k _ _ ev ek).1 x y exy with ⟨e,_⟩ | ⟨v,e,al⟩
   ·cases e
   cases e
   have rg:=al.ring O (by rw [<- exy]; exact BK (f:=(·.2)) (hin _ vin))
   refine ⟨_,rfl,gY.mpr ⟨u.1,u.2,rfl,s5 _ _ (g4 _ _ (tw u hu)),rg.ne,?_,fun z H6 M s6 hM mM ez=>q1 z H6 u.2 M (s4.trans (s5.trans s6)) ez hM mM ⟨_,vin,x,y,exy,al⟩ (fun v hv a b e => ?_) ?_⟩⟩
   ·have:=cU rg.nd rg.rng; omega
   ·obtain ⟨o,ho,hT⟩:=tell v hv
    rcases hT a b e with ⟨_,z⟩ | ⟨p,e2,al'⟩
    ·exact .inl z
    ·subst e2; exact .inr ⟨p.2,al',mn p ho⟩
   ·refine ⟨os.map (·.2),out.map (·.2),ws.map (Option.map (·.2)),u.2,M,RD,⟨?_,fun t => ?_,?_⟩,by rw [AM,AM,lw],fun k t o e1 e2 => ?_,?_,hM,mM,rfl⟩
    ·exact (pm.map _).nodup_iff.mpr ndu
    ·rw [(pm.map (·.2)).mem_iff]
     refine ⟨fun h => ?_,fun h => ?_⟩
     ·obtain ⟨v,hv,rfl⟩:=Bc.mp h
      exact BK (f:=(·.2)) (mu v hv)
     ·obtain ⟨v,hv,rfl⟩:=Bc.mp h
      exact cov v hv
    ·exact BQ.mpr ps
    ·rw [AX] at e1 e2
     obtain ⟨v,ev',rfl⟩:=Cr.mp e1
     obtain ⟨w',ew',rfl⟩:=Cr.mp e2
     exact (tl k v w' ev' ew').2
    ·rw [show (ws.map (Option.map (·.2))).filterMap id=(keep ws).map (·.2) by unfold keep; rw [FV,List.map_filterMap]; rfl]
     exact fm
end
abbrev pX:Sp:=fun vs H Q _=>∃ (r:Addr) (m:Nat) (ts:List (Addr × List Int)),vs=[.ref r]/\Wb H r m ts/\m<=400/\(∀ H',aB H H'->(∀ a b,[a,b] ∈ ts.map (·.2)->lL (ts.map (·.2)) a b)->Q .non H')/\∀ (z:Addr) (H':Hp) (Z:List Int) (M:Int),aB H H'->H' z=some (.tup ((frm Z M).map V.int))->M ∈ Z->(∀ b ∈ Z,M<=b)->(∃ a b,[a,b] ∈ ts.map (·.2)/\Al (ts.map (·.2)) a b Z)->(∀ a b,[a,b] ∈ ts.map (·.2)->lL (ts.map (·.2)) a b\/∃ Z',Al (ts.map (·.2)) a b Z'/\Z.length<=Z'.length)->ja m (ts.map (·.2)) (ts.map (·.2)) (frm Z M)->Q (.ref z) H'
@[irreducible] def iF:Sp:=pX
theorem fY {vs:List V} {H:Hp} {Q:VK} {E:XK}:iF vs H Q E ↔ pX vs H Q E:=by
 delta iF
 exact CS
section
variable {P:Program} {w:World} {K:PySem.W.Frag} {mg:Str->Option Value} {base:Heap} {f T:Addr} {fd:FuncData}
theorem pZ:aW ["web"] ["web"] (az cX):=⟨rfl,rfl,rfl,by decide +kernel,rfl,by decide +kernel,by decide +kernel⟩
theorem p8 (F:Fun K "least_ring" "least_ring" cX f fd) (B:Blt mg) (cLeastAlong:Cal P w K mg base 4 "least_along" ["web", "ties"] pW):cB P w K mg base CX0 5 f fd ["web"] iF:=by
 refine F.ok pZ (fun vs H Q E h => ?_) (fun cdv A outer s H vs Q E hr h => ?_)
 ·obtain ⟨_,_,_,rfl,_⟩:=fY.mp h
  rfl
 obtain ⟨r,m,ts,rfl,W,m4,q0,q1⟩:=fY.mp h
 refine ⟨_,(@au _ _ _ (@aS _ _ _ _ (bz cLeastAlong hr (by decide) rfl (@aa _ _ _ _ _ (pv 0) (@aa _ _ _ _ _ (@aN _ _ _ _ _ _ _ aM (pv 0) ai (fun _ _=>rfl)) ag rfl) rfl)))),?_⟩
 obtain ⟨t,e1,e2⟩:=W.at'
 refine ⟨_,rfl,_,rfl,r,_,1,_,rfl,rfl,SqT.of e1,rfl,jb.mpr ⟨r,t,m,ts,ts,rfl,W,m4,.inr e2,fun u hu=>hu,W.len,fun H' s no=>q0 H' s fun a b h => ?_,fun z H' Z M s ez hM mM hx hn ld=>q1 z H' Z M s ez hM mM ?_ (fun a b h => ?_) ld⟩⟩
 ·obtain ⟨u,hu,e⟩:=Bc.mp h
  exact no u hu a b e
 ·obtain ⟨u,hu,a,b,e,al⟩:=hx
  exact ⟨a,b,by rw [<- e]; exact BK (f:=(·.2)) hu,al⟩
 ·obtain ⟨u,hu,e⟩:=Bc.mp h
  exact hn u hu a b e
end
open PySem L2
structure xX (Z:List Int):Prop where
 ne:Z ≠ []
 nd:Z.Nodup
 mn:∀ b ∈ Z,Z.getD 0 0<=b
 lx:HT.lexLt (turn Z) Z=false
theorem gF (a:Int) (t:List Int):turn (a :: t)=a :: t.reverse:=rfl
theorem kS {Z:List Int} {k:Nat} {c:Int} (e:Z[k]? = some c):rot Z k=c :: (Z.drop (k + 1) ++ Z.take k):=by
 obtain ⟨h,e⟩:=AU.mp e
 unfold rot
 rw [C1 h,e]; rfl
theorem wa {Z:List Int} {M:Int} (h:M ∈ Z):Z[Z.idxOf M]? = some M:=by
 rw [AO (DV.mpr h),Gd]
theorem jf {Z:List Int} {M:Int} (h:M ∈ Z):∃ t,rot Z (Z.idxOf M)=M :: t/\((frm Z M=M :: t/\HT.lexLt (M :: t.reverse) (M :: t)=false)\/(frm Z M=M :: t.reverse/\HT.lexLt (M :: t.reverse) (M :: t)=true)):=by
 refine ⟨_,kS (wa h),?_⟩
 unfold frm
 rw [kS (wa h),gF]
 generalize Z.drop (Z.idxOf M + 1) ++ Z.take (Z.idxOf M)=t
 unfold i6
 cases c:HT.lexLt (M :: t.reverse) (M :: t) with
 | true=>exact .inr ⟨if_pos rfl,rfl⟩
 | false=>exact .inl ⟨if_neg A9,rfl⟩
theorem kT (Z:List Int) (k:Nat):(rot Z k).Perm Z:=by
 unfold rot
 exact CC.trans (by rw [B0])
theorem wb {Z:List Int} {M:Int} (h:M ∈ Z):(frm Z M).Perm Z:=by
 obtain ⟨t,e,⟨z,_⟩ | ⟨z,_⟩⟩:=jf h
 ·rw [z, <- e]; exact kT _ _
 ·rw [z]; exact ((Gr t).cons M).trans (e ▸ kT Z _)
theorem wc {a b:List Int} (h:HT.lexLt a b=true):HT.lexLt b a=false:=by
 cases c:HT.lexLt b a with
 | false=>rfl
 | true=>have:=Srt.lex_trans _ _ _ h c; rw [Srt.lex_irrefl] at this; cases this
theorem we {Z:List Int} {M:Int} (nd:Z.Nodup) (h:M ∈ Z) (mn:∀ b ∈ Z,M<=b):xX (frm Z M):=by
 have pm:=wb h
 obtain ⟨t,e,⟨z,c⟩ | ⟨z,c⟩⟩:=jf h
 ·refine ⟨by rw [z]; simp,pm.nodup_iff.mpr nd,fun b hb => ?_,?_⟩
  ·rw [z] at hb ⊢; exact mn b (pm.mem_iff.mp (z ▸ hb))
  ·rw [z,gF]; exact c
 ·refine ⟨by rw [z]; simp,pm.nodup_iff.mpr nd,fun b hb => ?_,?_⟩
  ·rw [z] at hb ⊢; exact mn b (pm.mem_iff.mp (z ▸ hb))
  ·rw [z,gF,DF]; exact wc c
theorem Ring.frm {m:Nat} {ns:List (List Int)} {Z:List Int} {M:Int} (h:Ring m ns Z) (hM:M ∈ Z):Ring m ns (frm Z M):=by
 have hr:Ring m ns (_root_.K10.rot Z (Z.idxOf M)):=by
  show Ring m ns (Z.drop (Z.idxOf M) ++ Z.take (Z.idxOf M))
  exact Ring.rot (by rw [B0]; exact h)
 obtain ⟨t,e,⟨z,_⟩ | ⟨z,_⟩⟩:=jf hM
 ·rw [z, <- e]; exact hr
 ·rw [e] at hr; rw [z]; exact hr.turn
def alt (Z:List Int) (k:Nat):List (List Int):=(List.range k).flatMap fun j=>[rot Z j,turn (rot Z j)]
theorem p9 (Z:List Int) (k:Nat):alt Z (k + 1)=alt Z k ++ [rot Z k,turn (rot Z k)]:=by
 unfold alt
 rw [List.range_succ,List.flatMap_append]
 simp
theorem om (Z:List Int):∀ k,(alt Z k).length=2 * k
 | 0=>rfl
 | k + 1=>by rw [p9,AQ,om Z k]; show _ + 2=_; omega
theorem kU (Z:List Int):rot Z 0=Z:=by unfold rot; simp
theorem wg {Z p:List Int} (C:xX Z) (hp:p ∈ alt Z Z.length) (h:∀ q ∈ alt Z Z.length,HT.lexLt q p=false):p=Z:=by
 have pos:=Cz.mpr C.ne
 have hz:Z ∈ alt Z Z.length:=Fm.mpr ⟨0,BP.mpr pos,by rw [kU]; simp⟩
 obtain ⟨j,hj,hp⟩:=Fm.mp hp
 rw [BP] at hj
 have ec:Z[j]? = some Z[j]:=AO hj
 have hh:=h Z hz
 have j0:∀ t,p=Z[j] :: t->j=0:=fun t e=>by
  have e0:Z=Z[0] :: Z.drop 1:=by
   have:=C1 pos
   rwa [Eg] at this
  have le:Z[0]<=Z[j]:=by
   have:=C.mn Z[j] (Dl hj)
   rwa [AZ,AO pos] at this
  have:Z[0]=Z[j]:=by
   rw [e] at hh
   generalize Z[j]=c at hh le
   rw [e0,HT.cV] at hh
   by_cases d:Z[0]=c
   ·exact d
   ·rw [if_neg d] at hh
    have:=of_decide_eq_false hh
    omega
  exact ((Gv C.nd).mp this).symm
 rcases A6.mp hp with z | z
 ·rw [z,j0 _ (z.trans (kS ec)),kU]
 ·rw [AV] at z
  have:j=0:=j0 _ (z.trans (by rw [kS ec,gF]))
  subst this
  rw [kU] at z
  subst z
  exact Srt.eI _ _ C.lx hh
theorem Ring.next {m:Nat} {ns:List (List Int)} {Z:List Int} (h:Ring m ns Z) {k:Nat} {y:Int} (e:Z[k]? = some y):∃ x,atI (Z.map V.int) ((k:Int) - 1)=some (.int x)/\Td ns x y:=by
 have hk:=(AU.mp e).1
 have c:=su h.ch
 cases k with
 | zero =>
  have t1:Z.take 1=[y]:=by
   cases Z with
   | nil=>cases e
   | cons a t=>cases e; rfl
  have el:Z[Z.length - 1]? = some (Z[Z.length - 1]'(by omega)):=AO (by omega)
  refine ⟨Z[Z.length - 1]'(by omega),?_,c (Z.length - 1) _ _ (by rw [Bf (by omega)]; exact el) (by rw [t1,Bk (by omega),show Z.length - 1 + 1 - Z.length=0 by omega]; rfl)⟩
  unfold atI ixN
  rw [AM]
  simp
  rw [if_pos (by omega)]
  simp only [Option.bind_some]
  rw [show (-1 + (Z.length:Int)).toNat=Z.length - 1 by omega,el]; rfl
 | succ k =>
  have el:Z[k]? = some (Z[k]'(by omega)):=AO (by omega)
  refine ⟨Z[k]'(by omega),?_,c k _ _ (by rw [Bf (by omega)]; exact el) (by rw [Bf (by omega)]; exact e)⟩
  rw [show ((k + 1:Nat):Int) - 1=(k:Int) by omega]
  exact cG (by rw [AX,el]; rfl)
theorem Ring.few {m:Nat} {ns:List (List Int)} {Z:List Int} (h:Ring m ns Z) (h3:Z.length < 3):∃ x y,atI (Z.map V.int) 0=some (.int x)/\atI (Z.map V.int) (-1)=some (.int y)/\Z.length<=ns.count (nrm x y):=by
 match Z,h,h3 with
 | [],h,_=>exact absurd rfl h.ne
 | [a],h,_ =>
  refine ⟨a,a,rfl,rfl,?_⟩
  have:nrm a a ∈ ns/\True:=h.ch
  exact List.one_le_count_iff.mpr this.1
 | [a,b],h,_=>exact ⟨a,b,rfl,rfl,h.two a b rfl⟩
 | a :: b :: c :: t,_,h3=>simp at h3; omega
def oth (p:Int) (t:List Int):Int:=t.getD 0 0 + t.getD 1 0 - p
theorem sE (p o:Int):oth p (nrm p o)=o:=by
 unfold oth nrm mnI mxI
 show (if o < p then o else p) + (if o > p then o else p) - p=o
 split <;> split <;> omega
theorem dZ (p o:Int):p ∈ nrm p o:=by
 rcases FD p o with c | c
 ·rw [cg c]; simp
 ·rw [cu,cg c]; simp
def off (ps:List Int) (p:List Int):Bool := !decide (p.getD 0 0 ∈ ps) && !decide (p.getD 1 0 ∈ ps)
theorem jH {m:Nat} {ns:List (List Int)} (O:Ok m ns) (ps:List Int):Ok m (ns.filter (off ps)):=fun p hp=>O p (Cj.mp hp).1
theorem qa:∀ m:Nat,(rgI m).Pairwise (· < ·):=fun m=>by
 unfold rgI
 rw [BQ]
 exact (Fq (n:=m)).imp fun {a b} h=>by omega
theorem eZ (m:Nat):(rgI m).Nodup:=(qa m).imp fun {a b} h=>by omega
theorem sF {ns out:List Int} {m:Nat} (p:out.Perm ns) (s:out.Pairwise (· <= ·)):out=rgI m ↔ ns.Perm (rgI m):=by
 constructor
 ·intro e
  rw [<- e]; exact p.symm
 ·intro q
  have q2:=p.trans q
  refine i4 (fU s (q2.nodup_iff.mpr (eZ m))) (qa m) fun x=>q2.mem_iff
def cz:List Int->Int->Nat
 | [],_=>0
 | x :: l,a=>if x=a then 0 else cz l a + 1
theorem jI:∀ {l:List Int} {a:Int},a ∈ l->l[cz l a]? = some a
 | [],_,h=>by cases h
 | x :: l,a,h=>by
  unfold cz
  by_cases e:x=a
  ·rw [if_pos e]; subst e; rfl
  ·rw [if_neg e]
   have:a ∈ l:=(A6.mp h).resolve_left fun z=>e z.symm
   rw [Cm]; exact jI this
def mi (ns:List Int) (p:List Int):Nat:=if cz ns (p.getD 1 0) < cz ns (p.getD 0 0) then cz ns (p.getD 1 0) else cz ns (p.getD 0 0)
def Good (ns:List Int) (m:Nat) (ps:List (List Int)):Prop:=ns.Perm (rgI m)/\(∀ p ∈ ps,p.getD 0 0 ≠ p.getD 1 0)/\∀ i < m,(ps.map (mi ns)).count i<=1
open Classical in
noncomputable def kX (ns:List Int) (m:Nat) (ps:List (List Int)):Bool:=decide (Good ns m ps)
open Classical in
theorem xY {ns:List Int} {m:Nat} {ps:List (List Int)} (h:¬ Good ns m ps):kX ns m ps=false:=by unfold kX; exact decide_eq_false h
theorem sH (a b:List (List Int)) (k:Int):aK (a ++ b) k=aK a k + aK b k:=by unfold aK; rw [A4,List.sum_append]
theorem cnt_cons (t:List Int) (b:List (List Int)) (k:Int):aK (t :: b) k=(t.count k:Int) + aK b k:=by unfold aK; rw [Bj,List.sum_cons]
theorem oq (k:Int):∀ b:List (List Int),0<=aK b k
 | []=>GV _
 | t :: b=>by rw [cnt_cons]; have:=oq k b; omega
theorem gG {t:List Int} {k:Int} (hk:k ∈ t):∀ {b:List (List Int)},t ∈ b->1<=aK b k
 | s :: b,h=>by
  rw [cnt_cons]
  rcases A6.mp h with z | z
  ·subst z; have:=BW.mpr hk; have:=oq k b; omega
  ·have:=gG hk z; omega
theorem sI {t u:List Int} {k:Int} (ne:t ≠ u) (ht:k ∈ t) (hu:k ∈ u):∀ {b:List (List Int)},t ∈ b->u ∈ b->2<=aK b k
 | s :: b,h1,h2=>by
  rw [cnt_cons]
  rcases A6.mp h1 with z | z <;> rcases A6.mp h2 with y | y
  ·exact absurd (z.trans y.symm) ne
  ·subst z; have:=BW.mpr ht; have:=gG hu y; omega
  ·subst y; have:=BW.mpr hu; have:=gG ht z; omega
  ·have:=sI ne ht hu z y; omega
theorem iG (a b v:Int):(([a,b]:List Int).count v:Int)=(if a=v then 1 else 0) + if b=v then 1 else 0:=by
 rw [Dw,Dw,G4]
 by_cases h1:a=v <;> by_cases h2:b=v <;> simp [h1,h2]
def fF (E:List (List Int)):Prop:=∀ pre t post,E=pre ++ t :: post->∀ a b:Int,t=[a,b]->¬ Con pre a b
theorem Con.up {E E':List (List Int)} (h:∀ t ∈ E,t ∈ E') {u v:Int} (c:Con E u v):Con E' u v:=by
 induction c with
 | refl=>exact .refl _
 | step _ a ih =>
  obtain ⟨p,hp,hx⟩:=dU.mp a
  exact .step ih (dU.mpr ⟨p,h p hp,hx⟩)
theorem qb {E:List (List Int)} (w:fF E) (q:List Int->Bool):fF (E.filter q):=fun pre t post e a b et c=>by
 obtain ⟨l1,l2,e1,e2,e3⟩:=List.filter_eq_append_iff.mp e
 obtain ⟨m1,m2,e4,_,_,_⟩:=List.filter_eq_cons_iff.mp e3
 refine w (l1 ++ m1) t m2 (by rw [e1,e4,Bo]) a b et (c.up fun s hs => ?_)
 rw [<- e2] at hs
 exact Bp _ (Cj.mp hs).1
theorem mY {m:Nat}:∀ (n:Nat) (E:List (List Int)),E.length=n->Ok m E->fF E->∀ u x:Int,∃ v,Con E u v/\aK E v<=1/\(v ≠ x\/aK E v=0)
 | 0,E,hn,_,_,u,x=>by
  have:=Dh.mp hn
  subst this
  exact ⟨u,.refl _,(by show (0:Int)<=1; decide),.inr rfl⟩
 | n + 1,E,hn,O,w,u,x=>by
  rcases Eo E with h | ⟨E',t,h⟩
  ·rw [h] at hn; cases hn
  rw [Ep] at h
  subst h
  obtain ⟨a,b,rfl,a0,ab,bm⟩:=O t (by simp)
  have nc:=w E' [a,b] [] rfl a b rfl
  have O':Ok m E':=fun t ht=>O t (Bp _ ht)
  have w':fF E':=fun pre t post e a' b' et=>w pre t (post ++ [[a,b]]) (by rw [e]; simp) a' b' et
  have ih:=mY n E' (by rw [AQ] at hn; exact Nat.succ.inj hn) O' w'
  have up:∀ {u v:Int},Con E' u v->Con (E' ++ [[a,b]]) u v:=fun c=>c.up fun s hs=>Bp _ hs
  have ne:a ≠ b:=fun e=>nc (e ▸ .refl _)
  have tie:Con (E' ++ [[a,b]]) a b := .one ((df O).mpr ⟨a,b,Bi _ (by simp),ne,.inl ⟨rfl,rfl⟩⟩)
  have cnt:∀ v,aK (E' ++ [[a,b]]) v=aK E' v + ((if a=v then 1 else 0) + if b=v then 1 else 0):=fun v=>by
   rw [sH,cnt_cons,iG]
   show _=_ + (_ + _)
   have:aK [] v=0:=rfl
   omega
  obtain ⟨v1,c1,k1,d1⟩:=ih a a
  obtain ⟨v2,c2,k2,d2⟩:=ih b b
  have n1:b ≠ v1:=fun e=>nc (e ▸ c1)
  have n2:a ≠ v2:=fun e=>nc ((e ▸ c2).symm O')
  have l1:aK (E' ++ [[a,b]]) v1<=1:=by
   rw [cnt,if_neg n1]
   by_cases z:a=v1
   ·rw [if_pos z]; rcases d1 with y | y
    ·exact absurd z.symm y
    ·omega
   ·rw [if_neg z]; omega
  have l2:aK (E' ++ [[a,b]]) v2<=1:=by
   rw [cnt,if_neg n2]
   by_cases z:b=v2
   ·rw [if_pos z]; rcases d2 with y | y
    ·exact absurd z.symm y
    ·omega
   ·rw [if_neg z]; omega
  have n12:v1 ≠ v2:=fun e=>nc (c1.trans (e ▸ c2.symm O'))
  have two:Con (E' ++ [[a,b]]) u a->∃ v,Con (E' ++ [[a,b]]) u v/\aK (E' ++ [[a,b]]) v<=1/\(v ≠ x\/aK (E' ++ [[a,b]]) v=0):=fun c=>by
   by_cases z:v1=x
   ·exact ⟨v2,(c.trans tie).trans (up c2),l2,.inl fun y=>n12 (z.trans y.symm)⟩
   ·exact ⟨v1,c.trans (up c1),l1,.inl z⟩
  by_cases ha:Con E' u a
  ·exact two (up ha)
  by_cases hb:Con E' u b
  ·exact two ((up hb).trans (tie.symm O))
  obtain ⟨v,c,k,d⟩:=ih u x
  have z1:a ≠ v:=fun e=>ha (e ▸ c)
  have z2:b ≠ v:=fun e=>hb (e ▸ c)
  have:aK (E' ++ [[a,b]]) v=aK E' v:=by rw [cnt,if_neg z1,if_neg z2]; omega
  exact ⟨v,up c,by omega,by rw [this]; exact d⟩
theorem stuck {m:Nat} {ns:List (List Int)} (O:Ok m ns) (w:fF ns) {G:List Int} {u:Int} (hu:0<=u/\u < m) (hG:u ∉ G) (hc:∀ v:Int,0<=v/\v < m->v ∉ G->2<=aK (ns.filter (off G)) v):False:=by
 have O':=jH O G
 obtain ⟨v,c,k,_⟩:=mY _ _ rfl O' (qb w (off G)) u u
 have rv:=c.rng O' hu
 have nv:v ∉ G:=c.closed (R:=fun v=>v ∉ G) hG fun x y _ a=>by
  obtain ⟨p,q,hp,ne,hx⟩:=(df O').mp a
  have:=(Cj.mp hp).2
  unfold off at this
  have z:p ∉ G/\q ∉ G:=by simpa using this
  rcases hx with ⟨rfl,rfl⟩ | ⟨rfl,rfl⟩
  ·exact z.2
  ·exact z.1
 have:=hc v rv nv
 omega
theorem wj {m:Nat} {E:List (List Int)} (O:Ok m E) {p:Int} (h1:aK E p<=1) {a b:Int} (c:Con E a b) (ha:a ≠ p) (hb:b ≠ p):Con (E.filter (off [p])) a b:=by
 have O':=jH O [p]
 have nb:∀ {v w:Int},Adj E p v->Adj E p w->v=w:=fun {v w} av aw=>by
  obtain ⟨_,tv⟩:=(eA O).mp av
  obtain ⟨_,tw⟩:=(eA O).mp aw
  by_cases z:nrm p v=nrm p w
  ·have:=congrArg (oth p) z
   rwa [sE,sE] at this
  ·have:=sI z (dZ p v) (dZ p w) tv tw
   omega
 have adj:∀ {u v:Int},Adj E u v->u ≠ p->v ≠ p->Adj (E.filter (off [p])) u v:=fun {u v} h hu hv=>by
  obtain ⟨a,b,hp,ne,hx⟩:=(df O).mp h
  refine (df O').mpr ⟨a,b,Cj.mpr ⟨hp,?_⟩,ne,hx⟩
  unfold off
  rcases hx with ⟨rfl,rfl⟩ | ⟨rfl,rfl⟩ <;> simp [hu,hv]
 by_cases hx:∃ x,Adj E p x
 ·obtain ⟨x,ax⟩:=hx
  have xp:x ≠ p:=fun e=>by
   have:=(eA O).mp ax
   exact this.1 e.symm
  have key:∀ {u v:Int},Con E u v->Con (E.filter (off [p])) (if u=p then x else u) (if v=p then x else v):=fun {u v} c=>by
   induction c with
   | refl=>exact .refl _
   | step cc a ih =>
    rename_i y z
    refine ih.trans ?_
    by_cases hy:y=p
    ·subst hy
     have:=nb a ax
     subst this
     rw [if_pos rfl,if_neg xp]; exact .refl _
    ·by_cases hz:z=p
     ·subst hz
      have:=nb (iB O a) ax
      subst this
      rw [if_pos rfl,if_neg hy]; exact .refl _
     ·rw [if_neg hy,if_neg hz]; exact .one (adj a hy hz)
  have:=key c
  rwa [if_neg ha,if_neg hb] at this
 ·clear hb
  induction c with
  | refl=>exact .refl _
  | step cc a ih =>
   rename_i y z
   have hy:y ≠ p:=fun e=>hx ⟨z,e ▸ a⟩
   have hz:z ≠ p:=fun e=>hx ⟨y,e ▸ iB O a⟩
   exact .step ih (adj a hy hz)
theorem wm {m:Nat} {E:List (List Int)} (O:Ok m E) {p:Int} (h1:aK E p<=1) (w:fF (E.filter (off [p]))):fF E:=fun pre t post e a b et c=>by
 subst et
 have Op:Ok m pre:=fun t ht=>O t (by rw [e]; exact Bp _ ht)
 rw [e,sH,cnt_cons,iG] at h1
 have c0:=oq p pre
 have c1:=oq p post
 by_cases hq:off [p] [a,b]=true
 ·have hab:a ≠ p/\b ≠ p:=by unfold off at hq; simpa using hq
  refine w (pre.filter (off [p])) [a,b] (post.filter (off [p])) ?_ a b rfl (wj Op ?_ c hab.1 hab.2)
  ·rw [e,ES,CL hq]
  ·have:(0:Int)<=(if a=p then 1 else 0) + (if b=p then 1 else 0):=by split <;> split <;> decide
   omega
 ·have hab:a=p\/b=p:=by
   unfold off at hq
   by_cases z:a=p
   ·exact .inl z
   ·right
    simpa [z] using hq
  have iso:∀ {u v:Int},Con pre u v->aK pre p=0->(u=p ↔ v=p):=fun {u v} c z=>by
   induction c with
   | refl=>exact CS
   | step cc aj ih =>
    rename_i y x
    refine ih.trans ⟨fun h => ?_,fun h => ?_⟩
    ·subst h
     have:=gG (dZ y x) ((eA Op).mp aj).2
     omega
    ·subst h
     have:=gG (dZ x y) ((eA Op).mp (iB Op aj)).2
     omega
  by_cases ha:a=p
  ·by_cases hb:b=p
   ·rw [if_pos ha,if_pos hb] at h1; omega
   ·rw [if_pos ha,if_neg hb] at h1
    exact hb ((iso c (by omega)).mp ha)
  ·have hb:=hab.resolve_left ha
   rw [if_neg ha,if_pos hb] at h1
   exact ha ((iso c (by omega)).mpr hb)
theorem qc (G:List Int) (p:Int) (t:List Int):off (G ++ [p]) t=(off [p] t && off G t):=by
 unfold off
 by_cases h1:t.getD 0 0 ∈ G <;> by_cases h2:t.getD 1 0 ∈ G <;> by_cases h3:t.getD 0 0=p <;> by_cases h4:t.getD 1 0=p <;> simp_all
def Pld (ns:List (List Int)) (G:List Int):Prop:=G.Nodup/\∀ (i:Nat) p,G[i]? = some p->aK (ns.filter (off (G.take i))) p<=1
theorem Pld.AK {m:Nat} {ns:List (List Int)} (O:Ok m ns) {G:List Int} (h:Pld ns G) (cov:∀ v:Int,0<=v/\v < m->v ∈ G):fF ns:=by
 have key:∀ k,k<=G.length->fF (ns.filter (off (G.take (G.length - k)))):=fun k=>by
  induction k with
  | zero =>
   intro _
   rw [Fw,GH]
   have:ns.filter (off G)=[]:=Ft.mpr fun t ht z=>by
    obtain ⟨a,b,rfl,a0,ab,bm⟩:=O t ht
    have ha:=cov a ⟨a0,by omega⟩
    unfold off at z
    simp [ha] at z
   rw [this]
   intro pre t post e
   cases pre <;> cases e
  | succ k ih =>
   intro hk
   have ih:=ih (by omega)
   have eg:G[G.length - (k + 1)]? = some (G[G.length - (k + 1)]'(by omega)):=AO (by omega)
   have et:G.take (G.length - k)=G.take (G.length - (k + 1)) ++ [G[G.length - (k + 1)]'(by omega)]:=by
    rw [show G.length - k=G.length - (k + 1) + 1 by omega,BU,eg]; rfl
   have:=h.2 _ _ eg
   refine wm (jH O _) this ?_
   rw [Ge]
   rw [et] at ih
   rw [show (fun a=>off [G[G.length - (k + 1)]'(by omega)] a && off (G.take (G.length - (k + 1))) a)=off (G.take (G.length - (k + 1)) ++ [G[G.length - (k + 1)]'(by omega)]) from funext fun t=>(qc _ _ t).symm]
   exact ih
 have:=key G.length (AS _)
 rw [Gu,Eh] at this
 rwa [FT.mpr fun t _=>by unfold off; simp] at this
theorem Pld.good {m:Nat} {ns:List (List Int)} (O:Ok m ns) {G:List Int} (h:Pld ns G) (rg:∀ v ∈ G,0<=v/\v < m) (lm:G.length=m):Good G m ns:=by
 have pm:G.Perm (rgI m):=by
  rw [EJ h.1 (eZ m)]
  intro a
  refine ⟨fun ha=>dX.mpr (rg a ha),fun ha => ?_⟩
  have ll:(rgI m).length=m:=by unfold rgI; simp
  by_cases z:a ∈ G
  ·exact z
  ·have:=B1 (B8.mpr ⟨z,h.1⟩) (l₂:=rgI m) fun x hx=>by
    rcases A6.mp hx with y | y
    ·rw [y]; exact ha
    ·exact dX.mpr (rg x y)
   rw [Bn] at this
   omega
 have cov:∀ v:Int,0<=v/\v < m->v ∈ G:=fun v hv=>pm.mem_iff.mpr (dX.mpr hv)
 refine ⟨pm,fun t ht e => ?_,fun i hi => ?_⟩
 ·obtain ⟨a,b,rfl,a0,ab,bm⟩:=O t ht
  have e':a=b:=e
  subst e'
  exact (h.AK O cov) |> fun w=>by
   obtain ⟨pre,post,e⟩:=List.append_of_mem ht
   exact w pre [a,a] post e a a rfl (.refl _)
 ·have eg:G[i]? = some (G[i]'(by omega)):=AO (by omega)
  have:=h.2 i _ eg
  suffices ∀ l:List (List Int),(∀ t ∈ l,t ∈ ns)->(((l.map (mi G)).count i:Nat):Int)<=aK (l.filter (off (G.take i))) (G[i]'(by omega)) by
   have:=this ns fun t ht=>ht
   omega
  intro l hl
  induction l with
  | nil=>exact GV _
  | cons t l ih =>
   have ih:=ih fun t ht=>hl t (Bh _ ht)
   obtain ⟨a,b,rfl,a0,ab,bm⟩:=O t (hl t Bg)
   have ga:=jI (cov a ⟨a0,by omega⟩)
   have gb:=jI (cov b ⟨by omega,bm⟩)
   rw [Bj,Dw]
   by_cases e:mi G [a,b]=i
   ·rw [if_pos (by simpa using e)]
    have e':(if cz G b < cz G a then cz G b else cz G a)=i:=e
    have nt:∀ {v:Int},G[cz G v]? = some v->i<=cz G v->v ∉ G.take i:=fun {v} gv le hv=>by
     obtain ⟨j,ej⟩:=Bt.mp hv
     rw [B7] at ej
     split at ej
     ·rename_i hj
      have:=(Fc (by omega) h.1).mp (ej.trans gv.symm)
      omega
     ·cases ej
    have hoff:off (G.take i) [a,b]=true:=by
     have n1:a ∉ G.take i:=nt ga (by split at e' <;> omega)
     have n2:b ∉ G.take i:=nt gb (by split at e' <;> omega)
     unfold off
     show (!decide (a ∈ G.take i) && !decide (b ∈ G.take i))=true
     rw [decide_eq_false n1,decide_eq_false n2]; rfl
    rw [CL hoff,cnt_cons]
    have:(G[i]'(by omega)) ∈ ([a,b]:List Int):=by
     split at e'
     ·rw [e',eg] at gb; rw [Bb gb]; simp
     ·rw [e',eg] at ga; rw [Bb ga]; simp
    have:=BW.mpr this
    omega
   ·rw [if_neg (by simpa using e),Gs]
    by_cases hq:off (G.take i) [a,b]=true
    ·rw [CL hq,cnt_cons]; omega
    ·rw [D8 hq]; exact ih
theorem xZ {m:Nat} {ns:List (List Int)} (O:Ok m ns) (h:¬ fF ns):∃ a b,[a,b] ∈ ns/\¬ lL ns a b:=by
 apply DI
 intro no
 apply h
 intro pre t post e a b et c
 subst et
 have hin:[a,b] ∈ ns:=by rw [e]; simp
 refine no ⟨a,b,hin,fun nal => ?_⟩
 have Op:Ok m pre:=fun t ht=>O t (by rw [e]; exact Bp _ ht)
 obtain ⟨_,_,ee,a0,ab,bm⟩:=O _ hin
 cases ee
 have np:[a,b] ∉ pre:=fun hp=>by
  have:=nal.2.1
  rw [e,Fd,List.count_cons_self] at this
  have:=BW.mpr hp
  omega
 have:∀ {v:Int},Con pre a v->∃ n,Wk (stp ns a b) a n v:=fun {v} c=>by
  induction c with
  | refl=>exact ⟨0,.z⟩
  | step cc aj ih =>
   rename_i y z
   obtain ⟨n,w⟩:=ih
   obtain ⟨ne,td⟩:=(eA Op).mp aj
   refine ⟨n + 1,.st w ⟨(eA O).mpr ⟨ne,by rw [e]; exact Bp _ td⟩,?_⟩⟩
   by_cases h1:y=a
   ·right; intro h2; subst h1; subst h2
    unfold Td at td
    rw [cg ab] at td
    exact np td
   ·exact .inl h1
 obtain ⟨n,w⟩:=this c
 exact nal.2.2 n w
def gt (L:List Int) (a:Int):Int:=L.getD a.toNat 0
theorem zR {L:List Int} {a b x:Int} (ha:0<=a/\a < L.length) (hb:0<=b):gt (L.set a.toNat x) b=if b=a then x else gt L b:=by
 unfold gt
 by_cases h:b=a
 ·subst h
  rw [if_pos rfl,AZ,BX (by omega)]; rfl
 ·rw [if_neg h,AZ,Cc (by omega), <- AZ]
theorem yz {L:List Int} {m:Nat} (hl:L.length=m) {v:Int} (hv:0<=v/\v < m):L[v.toNat]? = some (gt L v):=by
 unfold gt
 rw [AO (by omega),AZ,AO (by omega)]; rfl
theorem qd {m:Nat} {p v:Int} (ne:v ≠ p):∀ {E:List (List Int)},Ok m E->aK E v=aK (E.filter (off [p])) v + (E.count (nrm p v):Int)
 | [],_=>rfl
 | t :: E,O=>by
  have ih:=qd ne (E:=E) fun t ht=>O t (Bh _ ht)
  obtain ⟨a,b,rfl,a0,ab,bm⟩:=O t Bg
  rw [cnt_cons,iG,Dw]
  by_cases hq:off [p] [a,b]=true
  ·have hab:a ≠ p/\b ≠ p:=by unfold off at hq; simpa using hq
   have:[a,b] ≠ nrm p v:=fun e=>by
    have:=dZ p v
    rw [<- e] at this
    simp at this
    rcases this with z | z
    ·exact hab.1 z.symm
    ·exact hab.2 z.symm
   rw [CL hq,cnt_cons,iG,if_neg (show ¬ ([a,b] == nrm p v)=true by simpa using this)]
   omega
  ·rw [D8 hq]
   have hab:a=p\/b=p:=by
    unfold off at hq
    by_cases z:a=p
    ·exact .inl z
    ·right; simpa [z] using hq
   by_cases e:[a,b]=nrm p v
   ·rw [if_pos (show ([a,b] == nrm p v)=true by simpa using e)]
    have:(if a=v then (1:Int) else 0) + (if b=v then 1 else 0)=1:=by
     have hv:=dZ v p
     rw [cu, <- e] at hv
     simp at hv
     rcases hab with z | z
     ·subst z; rw [if_neg (BN ne),if_pos (hv.resolve_left ne).symm]; rfl
     ·subst z; rw [if_neg (BN ne),if_pos (hv.resolve_right ne).symm]; rfl
    omega
   ·rw [if_neg (show ¬ ([a,b] == nrm p v)=true by simpa using e)]
    have:(if a=v then (1:Int) else 0) + (if b=v then 1 else 0)=0:=by
     rcases hab with z | z
     ·subst z
      rw [if_neg (BN ne),if_neg fun y=>e (by subst y; rw [cg ab])]; rfl
     ·subst z
      rw [if_neg fun y=>e (by subst y; rw [cu,cg ab]),if_neg (BN ne)]; rfl
    omega
theorem iH {p v:Int}:∀ E:List (List Int),(E.count (nrm p v):Int)<=aK E p
 | []=>GV _
 | t :: E=>by
  have ih:=iH (p:=p) (v:=v) E
  rw [cnt_cons,Dw]
  by_cases e:t=nrm p v
  ·have:=BW.mpr (show p ∈ t from e ▸ dZ p v)
   rw [if_pos (by simpa using e)]; omega
  ·rw [if_neg (by simpa using e)]; omega
structure PI (m:Nat) (ns:List (List Int)) (G Y C:List Int):Prop where
 pld:Pld ns G
 rg:∀ v ∈ G,0<=v/\v < m
 clen:C.length=m
 cnt:∀ v:Int,0<=v/\v < m->v ∉ G->gt C v=aK (ns.filter (off G)) v
 ynd:Y.Nodup
 yiff:∀ v:Int,v ∈ Y ↔ (0<=v/\v < m)/\v ∉ G/\aK (ns.filter (off G)) v<=1
structure PJ (m:Nat) (ns:List (List Int)) (G:List Int) (p:Int) (D Y C:List Int):Prop where
 clen:C.length=m
 cnt:∀ v:Int,0<=v/\v < m->v ∉ G ++ [p]->gt C v=aK (ns.filter (off G)) v - if v ∈ D then 1 else 0
 ynd:Y.Nodup
 yiff:∀ v:Int,v ∈ Y ↔ (0<=v/\v < m)/\v ∉ G ++ [p]/\aK (ns.filter (off G)) v - (if v ∈ D then 1 else 0)<=1
def ct0 (ns:List (List Int)) (m:Nat):List Int:=(rgI m).map (aK ns)
def rd0 (ns:List (List Int)) (m:Nat):List Int:=(rgI m).filter fun v=>decide (aK ns v<=1)
theorem zS {ns:List (List Int)} {m:Nat} {v:Int} (hv:0<=v/\v < m):gt (ct0 ns m) v=aK ns v:=by
 unfold gt ct0 rgI
 rw [AZ,AX,AX,Di (by omega)]
 show aK ns ((v.toNat:Nat):Int)=_
 rw [show ((v.toNat:Nat):Int)=v by omega]
theorem sJ (ns:List (List Int)):ns.filter (off [])=ns:=FT.mpr fun t _=>by unfold off; simp
theorem PI.start (ns:List (List Int)) (m:Nat):PI m ns [] (rd0 ns m) (ct0 ns m):=by
 refine ⟨⟨Ej,fun i p e=>by simp at e⟩,fun v h=>(by cases h),by unfold ct0 rgI; simp,fun v hv _=>by rw [sJ,zS hv],List.Nodup.sublist List.filter_sublist (eZ m),fun v => ?_⟩
 unfold rd0
 rw [Cj,dX,sJ]
 simp
theorem PI.pop {m:Nat} {ns:List (List Int)} {G Y C:List Int} {p:Int} (h:PI m ns G (Y ++ [p]) C):PJ m ns G p [] Y C:=by
 have hp:=(h.yiff p).mp (by simp)
 obtain ⟨y1,_,y3⟩:=Ee.mp h.ynd
 have pY:p ∉ Y:=fun z=>y3 p z p (by simp) rfl
 refine ⟨h.clen,fun v hv nv => ?_,y1,fun v => ?_⟩
 ·rw [if_neg (by simp),FF]
  exact h.cnt v hv fun z=>nv (Bp _ z)
 ·rw [if_neg (by simp),FF]
  constructor
  ·intro hv
   obtain ⟨a,b,c⟩:=(h.yiff v).mp (Bp _ hv)
   refine ⟨a,fun z => ?_,c⟩
   rcases A2.mp z with y | y
   ·exact b y
   ·rw [AV] at y; exact pY (y ▸ hv)
  ·rintro ⟨a,b,c⟩
   have:=(h.yiff v).mpr ⟨a,fun z=>b (Bp _ z),c⟩
   rcases A2.mp this with y | y
   ·exact y
   ·exact absurd (Bi G y) b
theorem PJ.skip {m:Nat} {ns:List (List Int)} {G Y C D:List Int} {p o:Int} (h:PJ m ns G p D Y C) (ho:o ∈ G ++ [p]):PJ m ns G p (D ++ [o]) Y C:=by
 have e:∀ v,v ∉ G ++ [p]->(v ∈ D ++ [o] ↔ v ∈ D):=fun v nv=>by
  rw [A2,AV]
  exact ⟨fun z=>z.elim id fun y=>absurd (y ▸ ho) nv,.inl⟩
 refine ⟨h.clen,fun v hv nv => ?_,h.ynd,fun v => ?_⟩
 ·rw [h.cnt v hv nv]
  by_cases z:v ∈ D
  ·rw [if_pos z,if_pos ((e v nv).mpr z)]
  ·rw [if_neg z,if_neg fun y=>z ((e v nv).mp y)]
 ·rw [h.yiff v]
  refine and_congr_right fun a=>and_congr_right fun b => ?_
  by_cases z:v ∈ D
  ·rw [if_pos z,if_pos ((e v b).mpr z)]
  ·rw [if_neg z,if_neg fun y=>z ((e v b).mp y)]
theorem PJ.take {m:Nat} {ns:List (List Int)} {G Y C D:List Int} {p o:Int} (h:PJ m ns G p D Y C) (ro:0<=o/\o < m) (ho:o ∉ G ++ [p]) (nD:o ∉ D) (c1:1<=aK (ns.filter (off G)) o):PJ m ns G p (D ++ [o]) (if gt C o - 1=1 then Y ++ [o] else Y) (C.set o.toNat (gt C o - 1)):=by
 have co:=h.cnt o ro ho
 rw [if_neg nD,FF] at co
 have e:∀ v,v ≠ o->(v ∈ D ++ [o] ↔ v ∈ D):=fun v nv=>by
  rw [A2,AV]
  exact ⟨fun z=>z.elim id fun y=>absurd y nv,.inl⟩
 have yo:o ∈ Y ↔ aK (ns.filter (off G)) o<=1:=by
  rw [h.yiff o,if_neg nD,FF]
  exact ⟨fun z=>z.2.2,fun z=>⟨ro,ho,z⟩⟩
 refine ⟨by rw [C7]; exact h.clen,fun v hv nv => ?_,?_,fun v => ?_⟩
 ·rw [zR (by rw [h.clen]; exact ro) hv.1]
  by_cases z:v=o
  ·subst z; rw [if_pos rfl,if_pos (by simp),co]
  ·rw [if_neg z,h.cnt v hv nv]
   by_cases y:v ∈ D
   ·rw [if_pos y,if_pos ((e v z).mpr y)]
   ·rw [if_neg y,if_neg fun x=>y ((e v z).mp x)]
 ·split
  ·refine fz h.ynd fun z => ?_
   have:=yo.mp z
   omega
  ·exact h.ynd
 ·by_cases z:v=o
  ·subst z
   rw [if_pos (show v ∈ D ++ [v] by simp)]
   by_cases c:gt C v - 1=1
   ·rw [if_pos c]
    exact ⟨fun _=>⟨ro,ho,by omega⟩,fun _=>by simp⟩
   ·rw [if_neg c,yo]
    exact ⟨fun y=>⟨ro,ho,by omega⟩,fun y=>by omega⟩
  ·have:v ∈ (if gt C o - 1=1 then Y ++ [o] else Y) ↔ v ∈ Y:=by
    split
    ·rw [A2,AV]
     exact ⟨fun y=>y.elim id fun x=>absurd x z,.inl⟩
    ·exact CS
   rw [this,h.yiff v]
   refine and_congr_right fun a=>and_congr_right fun b => ?_
   by_cases y:v ∈ D
   ·rw [if_pos y,if_pos ((e v z).mpr y)]
   ·rw [if_neg y,if_neg fun x=>y ((e v z).mp x)]
theorem PJ.done {m:Nat} {ns:List (List Int)} (O:Ok m ns) {G Y C D:List Int} {p:Int} (h:PJ m ns G p D Y C) (hG:Pld ns G) (rg:∀ v ∈ G,0<=v/\v < m) (rp:0<=p/\p < m) (np:p ∉ G) (c1:aK (ns.filter (off G)) p<=1) (hD:∀ x,x ∈ D ↔ Adj ns p x):PI m ns (G ++ [p]) Y C:=by
 have O':=jH O G
 have key:∀ v:Int,v ∉ G ++ [p]->aK (ns.filter (off (G ++ [p]))) v=aK (ns.filter (off G)) v - if v ∈ D then 1 else 0:=fun v nv=>by
  have vG:v ∉ G:=fun z=>nv (Bp _ z)
  have vp:v ≠ p:=fun z=>nv (Bi _ (by simp [z]))
  have e:ns.filter (off (G ++ [p]))=(ns.filter (off G)).filter (off [p]):=by
   rw [Ge]
   congr 1
   exact funext fun t=>qc G p t
  rw [e]
  have a:=qd vp O'
  have b:=iH (p:=p) (v:=v) (ns.filter (off G))
  have hm:nrm p v ∈ ns.filter (off G) ↔ v ∈ D:=by
   rw [hD,eA O,Cj]
   refine ⟨fun z=>⟨BN vp,z.1⟩,fun z=>⟨z.2,?_⟩⟩
   rcases FD p v with y | y
   ·rw [cg y]; unfold off; simp [np,vG]
   ·rw [cu,cg y]; unfold off; simp [np,vG]
  by_cases z:v ∈ D
  ·have:=BW.mpr (hm.mpr z)
   rw [if_pos z]; omega
  ·have:(ns.filter (off G)).count (nrm p v)=0:=List.count_eq_zero.mpr fun y=>z (hm.mp y)
   rw [if_neg z]; omega
 refine ⟨⟨fz hG.1 np,fun i q e => ?_⟩,fun v hv => ?_,h.clen,fun v hv nv=>by rw [h.cnt v hv nv,key v nv],h.ynd,fun v => ?_⟩
 ·rcases Cp i G.length with c | c
  ·rw [Bf c] at e
   rw [Dm (by omega)]
   exact hG.2 i q e
  ·rw [Bk c] at e
   have:i - G.length=0:=by
    rcases C0 (i - G.length) with z | z
    ·exact z
    ·rw [Bl (by simp; omega)] at e; cases e
   rw [this] at e; cases e
   rw [show i=G.length by omega,G2]
   exact c1
 ·rcases A2.mp hv with z | z
  ·exact rg v z
  ·rw [AV] at z; subst z; exact rp
 ·rw [h.yiff v]
  refine and_congr_right fun a=>and_congr_right fun b => ?_
  rw [key v b]
def pin (G:List Int) (YC:List Int × List Int) (o:Int):List Int × List Int:=if o ∈ G then YC else (if gt YC.2 o - 1=1 then YC.1 ++ [o] else YC.1,YC.2.set o.toNat (gt YC.2 o - 1))
def itP (nb:Int->List Int) (S0:List Int × List Int):Nat->(List Int × List Int) × List Int
 | 0=>(S0,[])
 | k + 1=>((nb ((itP nb S0 k).1.1.getLastD 0)).foldl (pin ((itP nb S0 k).2 ++ [(itP nb S0 k).1.1.getLastD 0])) ((itP nb S0 k).1.1.dropLast,(itP nb S0 k).1.2),(itP nb S0 k).2 ++ [(itP nb S0 k).1.1.getLastD 0])
def x6 (nb:Int->List Int) (S0:List Int × List Int) (G:List Int):Prop:=∃ k,(itP nb S0 k).2=G/\(itP nb S0 k).1.1=[]/\∀ j,j < k->(itP nb S0 j).1.1 ≠ []
theorem x6.uniq {nb:Int->List Int} {S0:List Int × List Int} {G G':List Int} (h:x6 nb S0 G) (h':x6 nb S0 G'):G=G':=by
 obtain ⟨k,e,st,no⟩:=h
 obtain ⟨k',e',st',no'⟩:=h'
 have:k=k':=by
  rcases Ef k k' with z | z | z
  ·exact absurd st (no' k z)
  ·exact z
  ·exact absurd st' (no k' z)
 rw [<- e, <- e',this]
def qe (m:Nat) (ns:List (List Int)) (G:List Int):Prop:=∃ rows,kR m ns rows/\x6 (fV rows) (rd0 ns m,ct0 ns m) G
theorem qe.uniq {m:Nat} {ns:List (List Int)} {G G':List Int} (h:qe m ns G) (h':qe m ns G'):G=G':=by
 obtain ⟨r,a,b⟩:=h
 obtain ⟨r',a',b'⟩:=h'
 have:=a.uniq a'
 subst this
 exact b.uniq b'
open PySem L2
section
variable {P:Program} {w:World} {K:PySem.W.Frag} {mg:Str->Option Value} {base:Heap} {f T:Addr} {fd:FuncData}
theorem wo:aW ["web", "one", "other"] ["web", "one", "other"] (az gz):=⟨rfl,rfl,rfl,by decide +kernel,rfl,by decide +kernel,by decide +kernel⟩
theorem wq (F:Fun K "_law_times" "_law_times" gz f fd) (B:Blt mg):cB P w K mg base CX0 1 f fd ["web", "one", "other"] dY:=by
 refine F.ok wo (fun vs H Q E h => ?_) (fun cdv A outer s H vs Q E hr h => ?_)
 ·obtain ⟨_,_,_,_,_,rfl,_⟩:=cv.mp h
  rfl
 obtain ⟨r,m,a,b,ts,rfl,W,q⟩:=cv.mp h
 refine ⟨_,(@au _ _ _ (@aS _ _ _ _ (nN CG DZ (ku (hu8 hr)) (@aN _ _ _ _ _ _ _ aM (pv 0) ai (fun _ _=>rfl)) (@aa _ _ _ _ _ (@bD _ _ _ _ _ (@aa _ _ _ _ _ (aq (gn rfl) rfl B.b_min d9 (@aa _ _ _ _ _ (pv 1) (@aa _ _ _ _ _ (pv 2) ag rfl) rfl)) (@aa _ _ _ _ _ (aq (gk rfl) rfl B.b_max i3 (@aa _ _ _ _ _ (pv 1) (@aa _ _ _ _ _ (pv 2) ag rfl) rfl)) ag rfl) rfl)) ag rfl)))),?_⟩
 obtain ⟨t,e1,e2⟩:=W.at'
 refine ⟨_,rfl,r,_,1,_,rfl,rfl,SqT.of e1,rfl,⟨_,_,rfl,e2⟩,_,rfl,_,rfl,_,_,rfl,_,rfl,_,rfl,_,_,rfl,(by show 2<=sizeLine; decide),fun x hx => ?_⟩
 have s1:=ae hx (.tup ((nrm a b).map V.int))
 exact ⟨t,x,ts,nrm a b,rfl,rfl,s1 _ _ e2,fun u hu=>s1 _ _ (W.tup u hu),af,q _ s1⟩
end
abbrev wt:Sp:=fun vs H Q _=>∃ (r p:Addr) (m:Nat) (ts:List (Addr × List Int)) (Z:List Int),vs=[.ref r,.ref p]/\Wb H r m ts/\m<=200/\H p=some (.tup (Z.map V.int))/\Ring m (ts.map (·.2)) Z/\∀ H',aB H H'->Q (.bl true) H'
@[irreducible] def qf:Sp:=wt
theorem jg {vs:List V} {H:Hp} {Q:VK} {E:XK}:qf vs H Q E ↔ wt vs H Q E:=by
 delta qf
 exact CS
theorem um:∀ {us ns:List Int},us.Nodup->ns.Nodup->(∀ k,k ∈ us ↔ k ∈ ns)->us.length=ns.length:=fun h1 h2 h=>Dv (B1 h1 fun x hx=>(h x).mp hx) (B1 h2 fun x hx=>(h x).mpr hx)
section
variable {P:Program} {w:World} {K:PySem.W.Frag} {mg:Str->Option Value} {base:Heap} {f T:Addr} {fd:FuncData}
theorem mZ:aW ["web", "ring", "k"] ["web", "ring"] (az eR):=⟨rfl,rfl,rfl,by decide +kernel,rfl,by decide +kernel,by decide +kernel⟩
theorem gJ:(["place", "web"]:List Str).Nodup:=by decide +kernel
theorem uo (F:Fun K "_law_is_ring" "_law_is_ring" eR f fd) (B:Blt mg) (cLTimes:Cal P w K mg base 1 "_law_times" ["web", "one", "other"] dY):cB P w K mg base CX0 2 f fd ["web", "ring"] qf:=by
 refine F.ok mZ (fun vs H Q E h => ?_) (fun cdv A outer s H vs Q E hr h => ?_)
 ·obtain ⟨_,_,_,_,_,rfl,_⟩:=jg.mp h
  rfl
 obtain ⟨r,p,m,ts,Z,rfl,W,m2,ep,R,q⟩:=jg.mp h
 refine ⟨_,(@ah _ _ _ _ _ (@bL _ _ _ _ _ _ _ _ (PW.pt (gL (aO dG (aq ba rfl B.b_len fy (@aa _ _ _ _ _ (pv 1) ag rfl)) ai (aR _)) (gL (aO jR (aq pE rfl B.b_len fy (@aa _ _ _ _ _ (aI (qM (w:=w) rfl hr.hd) rfl B.b_set vP (@aa _ _ _ _ _ (pv 1) ag rfl)) ag rfl)) (aq ba rfl B.b_len fy (@aa _ _ _ _ _ (pv 1) ag rfl)) (aR _)) (iL (gP (fG (aq (j2 rfl) rfl B.b_all rd (@aa _ _ _ _ _ (cw ["place", "web"] [none,some 0] rfl (@nA _ _ _ _ (pv 1)) rfl (fun _ _ _ _ _=>(ak (i:=0) gJ rfl (Or.inl rfl))) (fun _ _ _ _ _=>cC) (fun _ _ _ _ _=>(uL yf oD ai (pv 0) (@aN _ _ _ _ _ _ _ (wZ (K:=K)) (pv 1) ai (fun _ _=>rfl))))) ag rfl)))))))) (@au _ _ _ (@aS _ _ _ _ jh)) aV)
  (@ah _ _ _ _ _ (@bL _ _ _ _ _ _ _ _ (aO oD (aq ba rfl B.b_len fy (@aa _ _ _ _ _ (pv 1) ag rfl)) ai (aR _)) (@au _ _ _ (@aS _ _ _ _ (h7 uK (bz cLTimes hr (by decide) rfl (@aa _ _ _ _ _ (pv 0) (@aa _ _ _ _ _ (@aN _ _ _ _ _ _ _ aM (pv 1) ai (fun _ _=>rfl)) (@aa _ _ _ _ _ (@aN _ _ _ _ _ _ _ aM (pv 1) (Aa yS ai) (fun _ _=>rfl)) ag rfl) rfl) rfl)) (aq ba rfl B.b_len fy (@aa _ _ _ _ _ (pv 1) ag rfl)) (aR _)))) aV)
  (@ah _ _ _ _ _ (@bV _ _ _ _ _ _ _ _ Bw rfl (bI rfl B.b_range (@aa _ _ _ _ _ (aq ba rfl B.b_len fy (@aa _ _ _ _ _ (pv 1) ag rfl)) ag rfl)) (ak (i:=2) mZ.nd rfl (Or.inl rfl))
   (@au _ _ _ (@bL _ _ _ _ _ _ _ _ (aO dG (bz cLTimes hr (by decide) rfl (@aa _ _ _ _ _ (pv 0) (@aa _ _ _ _ _ (@aN _ _ _ _ _ _ _ aM (pv 1) (@aL _ _ _ _ _ _ _ _ dr (pv 2) ai) (fun _ _=>rfl)) (@aa _ _ _ _ _ (@aN _ _ _ _ _ _ _ aM (pv 1) (pv 2) (fun _ _=>rfl)) ag rfl) rfl) rfl)) ai (aR _)) (@au _ _ _ (@aS _ _ _ _ jh)) aV)) (fun _=>rfl))
  (@au _ _ _ (@aS _ _ _ _ jh))))),?_⟩
 obtain ⟨t,e1,e2⟩:=W.at'
 have lz:(Z.map V.int).length=Z.length:=AM _
 have pos:=Cz.mpr R.ne
 have l2:=cU R.nd R.rng
 refine ⟨_,rfl,p,_,rfl,.inr (SqT.of ep),rfl,_,rfl,?_⟩
 rw [lz,decide_eq_false (by intro z; injection z with z; omega)]
 refine cI ⟨_,rfl,p,Z,rfl,.inr (SqT.of ep),by omega,fun a us ha mu nu lu => ?_⟩
 have ga:=ae ha (d8 w a (us.map V.int))
 have lus:=um nu R.nd mu
 refine ⟨a,us.map V.int,rfl,af,by rw [AM]; omega,?_⟩
 generalize upd H a (d8 w a (us.map V.int))=H1 at ga
 refine ⟨_,rfl,p,_,rfl,.inr (SqT.of (ga _ _ ep)),rfl,_,rfl,?_⟩
 rw [lz,AM,lus]
 refine jX rfl ?_
 have ep1:=ga _ _ ep
 have W1:=W.same ga
 refine ⟨_,rfl,p,rfl,⟨_,SqT.of ep1⟩,iR (xs:=Z.map V.int) (fun i ys H'=>H'=H1/\ys=((Z.take i).map fun _=>true).map V.bl) ⟨rfl,rfl⟩ (by rw [AM]; exact small (by omega)) (fun i ys H' _ z=>by rw [z.1]; exact SqT.of ep1) ?_ ?_⟩
 ·rintro i x ys H3 hx hy ⟨eH,rfl⟩ R1 R0 r1 r0
  obtain ⟨v,ev,rfl⟩:=jt hx
  obtain ⟨v0,v1⟩:=R.rng v (AY ev)
  refine bX ⟨_,rfl,_,_,rfl,rfl,_,rfl,?_⟩
  rw [decide_eq_true v0]
  refine bX ⟨_,rfl,r,_,0,_,rfl,rfl,SqT.of (by rw [eH]; exact ga _ _ e1),rfl,_,_,rfl,rfl,?_⟩
  dsimp only
  rw [decide_eq_true v1]
  refine r1 _ _ ⟨eH,?_⟩
  rw [take_snoc (f:=fun _:Int=>true) ev,A4]; rfl
 rintro ys H3 hy ⟨eH,rfl⟩ l hl
 rw [eH] at hl ⊢
 rw [AM,A7 (AS _)]
 have g4:=ae hl (.lst ((Z.map fun _=>true).map V.bl))
 refine ⟨l,_,rfl,SqL.of af,_,rfl,?_⟩
 rw [show (Z.map fun _=>true).all id=true by simp]
 refine cI ?_
 generalize upd H1 l (.lst ((Z.map fun _=>true).map V.bl))=H4 at g4
 have ep4:=g4 _ _ ep1
 have W4:=W1.same g4
 have s4:=ga.trans g4
 refine ⟨_,rfl,p,_,rfl,.inr (SqT.of ep4),_,_,rfl,rfl,_,rfl,?_⟩
 rw [lz]
 by_cases h3:Z.length < 3
 ·rw [decide_eq_true (show (Z.length:Int) < 3 by omega)]
  obtain ⟨x,y,ax,ay,hc⟩:=R.few h3
  refine bX ⟨_,rfl,_,rfl,p,_,0,_,rfl,rfl,SqT.of ep4,ax,_,rfl,1,rfl,p,_,(-1:Int),_,rfl,rfl,SqT.of ep4,ay,cv.mpr ⟨r,m,x,y,ts,rfl,W4,fun H5 s5 => ?_⟩⟩
  refine ⟨_,rfl,p,_,rfl,.inr (SqT.of (s5 _ _ ep4)),_,_,rfl,rfl,?_⟩
  have:=q _ (s4.trans s5)
  rw [<- decide_eq_true (show (((ts.map (·.2)).count (nrm x y):Nat):Int) ≥ (((Z.map V.int).length:Nat):Int) by rw [lz]; omega)] at this
  exact this
 ·rw [decide_eq_false (show ¬ (Z.length:Int) < 3 by omega)]
  refine cI ⟨_,rfl,p,_,rfl,.inr (SqT.of ep4),_,rfl,by omega,by omega,?_⟩
  rw [lz]
  refine bS (n:=Z.length) (fun k σ H'=>(∃ c2,σ=[some (.ref r),some (.ref p),c2])/\aB H4 H') ⟨⟨_,rfl⟩,aB.refl _⟩ ?_ ?_
  ·rintro k σ H5 hk ⟨⟨c2,rfl⟩,s5⟩
   have ey:Z[k]? = some (Z[k]'hk):=AO hk
   obtain ⟨x,ax,td⟩:=R.next ey
   have ep5:=s5 _ _ ep4
   have e0:(0:Int) + (k:Int) - 1=(k:Int) - 1:=by omega
   refine ⟨_,rfl,_,rfl,_,rfl,_,_,rfl,rfl,p,_,_,_,rfl,rfl,SqT.of ep5,by rw [e0]; exact ax,_,rfl,_,rfl,p,_,_,_,rfl,rfl,SqT.of ep5,by rw [Er]; exact cG (by rw [AX,ey]; rfl),cv.mpr ⟨r,m,_,_,ts,rfl,W4.same s5,fun H6 s6 => ?_⟩⟩
   refine ⟨rfl,_,rfl,?_⟩
   rw [decide_eq_false (by intro z; injection z with z; have:=BW.mpr (show nrm x (Z[k]'hk) ∈ ts.map (·.2) from td); omega)]
   exact cI ⟨⟨_,rfl⟩,s5.trans s6⟩
  ·rintro σ H5 ⟨⟨c2,rfl⟩,s5⟩
   exact q _ (s4.trans s5)
end
abbrev qg:Sp:=fun vs H Q _=>∃ (p:Addr) (Z:List Int),vs=[.ref p]/\H p=some (.tup (Z.map V.int))/\xX Z/\Z.length<=200/\∀ (z:Addr) (H':Hp),aB H H'->H' z=some (.tup (Z.map V.int))->Q (.ref z) H'
@[irreducible] def iI:Sp:=qg
theorem fZ {vs:List V} {H:Hp} {Q:VK} {E:XK}:iI vs H Q E ↔ qg vs H Q E:=by
 delta iI
 exact CS
def TT (H:Hp) (us:List (Addr × List Int)):Prop:=∀ u ∈ us,H u.1=some (.tup (u.2.map V.int))
theorem TT.same {H H':Hp} {us:List (Addr × List Int)} (h:TT H us) (s:aB H H'):TT H' us:=fun u hu=>s _ _ (h u hu)
theorem TT.snoc {H:Hp} {us:List (Addr × List Int)} (h:TT H us) {a:Addr} {Z:List Int} (e:H a=some (.tup (Z.map V.int))):TT H (us ++ [(a,Z)]):=fun u hu=>by
 rcases A2.mp hu with z | z
 ·exact h u z
 ·rw [AV] at z; subst z; exact e
theorem TT.put {H:Hp} {us:List (Addr × List Int)} (h:TT H us) {l:Addr} {xs ys:List V} (e:H l=some (.lst xs)):TT (upd H l (.lst ys)) us:=fun u hu=>by
 rw [aE (gK (h u hu) e (by intro z; cases z))]; exact h u hu
theorem x8 (Z:List Int) (k:Nat):(rot Z k).length=Z.length:=(kT Z k).length_eq
section
variable {P:Program} {w:World} {K:PySem.W.Frag} {mg:Str->Option Value} {base:Heap} {f T:Addr} {fd:FuncData}
theorem jJ:aW ["ring", "some", "k", "turned"] ["ring"] (az iY):=⟨rfl,rfl,rfl,by decide +kernel,rfl,by decide +kernel,by decide +kernel⟩
theorem x9 (F:Fun K "_law_form" "_law_form" iY f fd) (B:Blt mg):cB P w K mg base CX0 1 f fd ["ring"] iI:=by
 refine F.ok jJ (fun vs H Q E h => ?_) (fun cdv A outer s H vs Q E hr h => ?_)
 ·obtain ⟨_,_,rfl,_⟩:=fZ.mp h
  rfl
 obtain ⟨p,Z,rfl,ep,C,l2,q⟩:=fZ.mp h
 refine ⟨_,(@ah _ _ _ _ _ (@aQ _ _ 1 _ _ _ _ jJ.nd rfl (Or.inl rfl) (@cQ _ _ _ _ ag) rfl (by first | exact .inl rfl | exact .inr rfl | assumption))
  (@ah _ _ _ _ _ (@bV _ _ _ _ _ _ _ _ Bw rfl (bI rfl B.b_range (@aa _ _ _ _ _ (aq ba rfl B.b_len fy (@aa _ _ _ _ _ (pv 0) ag rfl)) ag rfl)) (ak (i:=2) jJ.nd rfl (Or.inl rfl))
   (@ah _ _ _ _ _ (@aQ _ _ 3 _ _ _ _ jJ.nd rfl (Or.inl rfl) (@aL _ _ _ _ _ _ _ _ jC (aI cR rfl B.b_list gC (@aa _ _ _ _ _ (dg gw (pv 0) (dz (pv 2)) fg) ag rfl)) (aI cR rfl B.b_list gC (@aa _ _ _ _ _ (dg gw (pv 0) fg (dz (pv 2))) ag rfl))) rfl (by first | exact .inl rfl | exact .inr rfl | assumption))
   (@ah _ _ _ _ _ (bR (dy Bm BG BH bT (pv 1) (@aa _ _ _ _ _ (aI bB rfl B.b_tuple dP (@aa _ _ _ _ _ (pv 3) ag rfl)) ag rfl)))
   (@au _ _ _ (bR (dy Bm BG BH bT (pv 1) (@aa _ _ _ _ _ (aI bB rfl B.b_tuple dP (@aa _ _ _ _ _ (@aL _ _ _ _ _ _ _ _ jC (@cQ _ _ _ _ (@aa _ _ _ _ _ (@aN _ _ _ _ _ _ _ cH (pv 3) ai (fun _ _=>rfl)) ag rfl)) (qR hr.hd rfl B.b_list rfl B.b_reversed (dg rK (pv 3) (dz ai) fg))) ag rfl)) ag rfl)))))) (fun _=>rfl))
  (@au _ _ _ (@aS _ _ _ _ (aq (qW rfl (hu8 hr)) rfl B.b_min d9 (@aa _ _ _ _ _ (pv 1) ag rfl)))))),?_⟩
 have lz:(Z.map V.int).length=Z.length:=AM _
 refine ⟨(by show 0<=sizeLine; decide),fun l hl => ?_⟩
 have g1:=ae hl (.lst [])
 have el:upd H l (.lst []) l=some (.lst (([]:List (Addr × List Int)).map fun u => .ref u.1)):=af
 have ep1:=g1 _ _ ep
 generalize upd H l (.lst [])=H1 at g1 el ep1
 refine ⟨_,rfl,p,_,rfl,.inr (SqT.of ep1),_,rfl,by omega,by omega,?_⟩
 rw [lz]
 refine bS (n:=Z.length) (fun k σ H'=>(∃ c2 c3,σ=[some (.ref p),some (.ref l),c2,c3])/\aB H H'/\∃ us,H' l=some (.lst (us.map fun u => .ref u.1))/\TT H' us/\us.map (·.2)=alt Z k) ⟨⟨_,_,rfl⟩,g1,[],el,fun u h=>(by cases h),rfl⟩ ?_ ?_
 ·rintro k σ H2 hk ⟨⟨c2,c3,rfl⟩,s2,us,el2,tu,eu⟩
  have ep2:=s2 _ _ ep
  refine ⟨_,rfl,_,rfl,_,rfl,p,_,rfl,ep2,fun p1 H3 s3 e3=>⟨p1,_,rfl,.inr (SqT.of e3),fun a1 ha1 => ?_⟩⟩
  rw [Er,kP _ (by rw [lz]; omega), <- DC] at e3
  have g3:=ae ha1 (.lst ((Z.drop k).map V.int))
  have ea1:upd H3 a1 (.lst ((Z.drop k).map V.int)) a1=some (.lst ((Z.drop k).map V.int)):=af
  rw [Er,kP _ (by rw [lz]; omega), <- DC]
  have s23:=s3.trans g3
  generalize upd H3 a1 (.lst ((Z.drop k).map V.int))=H4 at g3 ea1 s23
  refine ⟨_,rfl,_,rfl,_,rfl,p,_,rfl,s23 _ _ ep2,fun p2 H5 s5 e5=>⟨p2,_,rfl,.inr (SqT.of e5),fun a2 ha2 => ?_⟩⟩
  rw [rh _ (by rw [lz]; omega), <- EA]
  have g5:=ae ha2 (.lst ((Z.take k).map V.int))
  have ea2:upd H5 a2 (.lst ((Z.take k).map V.int)) a2=some (.lst ((Z.take k).map V.int)):=af
  have s25:=s23.trans (s5.trans g5)
  have ea1':=g5 _ _ (s5 _ _ ea1)
  generalize upd H5 a2 (.lst ((Z.take k).map V.int))=H6 at g5 ea2 s25 ea1'
  have lr:(rot Z k).length=Z.length:=x8 Z k
  refine ⟨a1,a2,_,_,rfl,rfl,SqL.of ea1',SqL.of ea2,by rw [AM,AM,BS,BL]; exact small (by omega),fun tu1 htu => ?_⟩
  rw [<- A4,show Z.drop k ++ Z.take k=rot Z k from rfl]
  have g7:=ae htu (.lst ((rot Z k).map V.int))
  have etu:upd H6 tu1 (.lst ((rot Z k).map V.int)) tu1=some (.lst ((rot Z k).map V.int)):=af
  have s27:=s25.trans g7
  generalize upd H6 tu1 (.lst ((rot Z k).map V.int))=H7 at g7 etu s27
  have el7:=s27 _ _ el2
  have hl7:H l=none:=hl
  refine ⟨_,rfl,.inl ⟨rfl,_,SqL.of el7⟩,_,rfl,tu1,_,rfl,.inl ⟨SqL.of etu,fun t1 ht1 => ?_⟩⟩
  have g8:=ae ht1 (.tup ((rot Z k).map V.int))
  have et1:upd H7 t1 (.tup ((rot Z k).map V.int)) t1=some (.tup ((rot Z k).map V.int)):=af
  have s28:=s27.trans g8
  have el8:=g8 _ _ el7
  have etu8:=g8 _ _ etu
  generalize upd H7 t1 (.tup ((rot Z k).map V.int))=H8 at g8 et1 s28 el8 etu8
  have lus:us.length=2 * k:=by rw [<- om Z k, <- eu,AM]
  refine ⟨l,_,_,rfl,rfl,el8,by rw [AM]; exact cf (by omega),?_⟩
  have tu8:TT (upd H8 l (.lst (us.map (fun u=>V.ref u.1) ++ [.ref t1]))) (us ++ [(t1,rot Z k)]):=((tu.same s28).snoc et1).put el8
  have el9:upd H8 l (.lst (us.map (fun u=>V.ref u.1) ++ [.ref t1])) l=some (.lst ((us ++ [(t1,rot Z k)]).map fun u => .ref u.1)):=by rw [af,A4]; rfl
  have s9:=aB.bG (s2.trans s28) hl7 (.lst (us.map (fun u=>V.ref u.1) ++ [.ref t1]))
  have etu9:upd H8 l (.lst (us.map (fun u=>V.ref u.1) ++ [.ref t1])) tu1=some (.lst ((rot Z k).map V.int)):=by rw [aE (BN (aD (s25 _ _ el2) htu))]; exact etu8
  generalize upd H8 l (.lst (us.map (fun u=>V.ref u.1) ++ [.ref t1]))=H9 at tu8 el9 s9 etu9
  have er:=kS (AO hk)
  generalize Z.drop (k + 1) ++ Z.take k=rest at er
  rw [er] at etu9 lr
  have lrest:rest.length + 1=Z.length:=lr
  refine ⟨_,rfl,.inl ⟨rfl,_,SqL.of el9⟩,_,rfl,tu1,_,0,.int Z[k],rfl,rfl,SqL.of etu9,cG (j:=0) rfl,(by show 1<=sizeLine; decide),fun b1 hb1 => ?_⟩
  have g10:=ae hb1 (.lst [.int Z[k]])
  have eb1:upd H9 b1 (.lst [.int Z[k]]) b1=some (.lst [.int Z[k]]):=af
  have etu10:=g10 _ _ etu9
  generalize upd H9 b1 (.lst [.int Z[k]])=H10 at g10 eb1 etu10
  refine ⟨_,rfl,1,rfl,tu1,_,rfl,SqL.of etu10,fun b2 hb2 => ?_⟩
  rw [show fD ((Z[k] :: rest).map V.int) (some 1) none=((Z[k] :: rest).map V.int).drop 1 from kP (k:=1) _ (by simp), <- DC,show (Z[k] :: rest).drop 1=rest from rfl]
  have g11:=ae hb2 (.lst (rest.map V.int))
  have eb2:upd H10 b2 (.lst (rest.map V.int)) b2=some (.lst (rest.map V.int)):=af
  have eb1':=g11 _ _ eb1
  generalize upd H10 b2 (.lst (rest.map V.int))=H11 at g11 eb2 eb1'
  refine ⟨b2,_,rfl,SqL.of eb2,by rw [AM]; omega,fun b3 hb3 => ?_⟩
  rw [<- GI]
  have g12:=ae hb3 (.lst (rest.reverse.map V.int))
  have eb3:upd H11 b3 (.lst (rest.reverse.map V.int)) b3=some (.lst (rest.reverse.map V.int)):=af
  have eb1'':=g12 _ _ eb1'
  generalize upd H11 b3 (.lst (rest.reverse.map V.int))=H12 at g12 eb3 eb1''
  refine ⟨b1,b3,_,_,rfl,rfl,SqL.of eb1'',SqL.of eb3,by rw [AM,Cf]; exact small (by show 1 + _<=_; omega),fun b4 hb4 => ?_⟩
  rw [show ([V.int Z[k]] ++ rest.reverse.map V.int:List V)=(turn (rot Z k)).map V.int by rw [er]; rfl]
  have g13:=ae hb4 (.lst ((turn (rot Z k)).map V.int))
  have eb4:upd H12 b4 (.lst ((turn (rot Z k)).map V.int)) b4=some (.lst ((turn (rot Z k)).map V.int)):=af
  generalize upd H12 b4 (.lst ((turn (rot Z k)).map V.int))=H13 at g13 eb4
  refine ⟨b4,_,rfl,.inl ⟨SqL.of eb4,fun t2 ht2 => ?_⟩⟩
  have g14:=ae ht2 (.tup ((turn (rot Z k)).map V.int))
  have et2:upd H13 t2 (.tup ((turn (rot Z k)).map V.int)) t2=some (.tup ((turn (rot Z k)).map V.int)):=af
  have s14:=g10.trans (g11.trans (g12.trans (g13.trans g14)))
  generalize upd H13 t2 (.tup ((turn (rot Z k)).map V.int))=H14 at g14 et2 s14
  have el14:=s14 _ _ el9
  refine ⟨l,_,_,rfl,rfl,el14,by rw [AM,AQ]; exact cf (by show _ + 1<=_; omega),⟨_,_,rfl⟩,aB.bG (s9.trans s14) hl7 _,us ++ [(t1,rot Z k)] ++ [(t2,turn (rot Z k))],by rw [af,A4,A4,A4]; rfl,((tu8.same s14).snoc et2).put el14,?_⟩
  rw [A4,A4,eu,p9,Bo]; rfl
 ·rintro σ H2 ⟨⟨c2,c3,rfl⟩,s2,us,el2,tu,eu⟩
  have lus:us.length=2 * Z.length:=by rw [<- om Z Z.length, <- eu,AM]
  refine ⟨_,rfl,l,us,rfl,SqL.of el2,fun u hu=>SqT.of (tu u hu),fun z => ?_,fun u hu mn => ?_⟩
  ·have:=Cz.mpr C.ne
   rw [z] at lus; simp at lus; omega
  ·have:u.2=Z:=wg C (by rw [<- eu]; exact BK (f:=(·.2)) hu) fun q hq=>by
    rw [<- eu] at hq
    obtain ⟨v,hv,rfl⟩:=Bc.mp hq
    exact mn v hv
   exact q u.1 H2 s2 (by rw [<- this]; exact tu u hu)
end
open PySem L2
abbrev sL:Sp:=fun vs H Q _=>∃ (r:Addr) (m:Nat) (ts:List (Addr × List Int)),vs=[.ref r]/\Wb H r m ts/\m<=200/\∀ (l:Addr) (H':Hp) (G:List Int),aB H H'->H l=none->H' l=some (.lst (G.map V.int))->Pld (ts.map (·.2)) G->(∀ v ∈ G,0<=v/\v < m)->(∀ v:Int,0<=v/\v < m->v ∉ G->2<=aK ((ts.map (·.2)).filter (off G)) v)->qe m (ts.map (·.2)) G->Q (.ref l) H'
@[irreducible] def kY:Sp:=sL
theorem hJ {vs:List V} {H:Hp} {Q:VK} {E:XK}:kY vs H Q E ↔ sL vs H Q E:=by
 delta kY
 exact CS
def dR (R:List Int):List (Int × V):=R.map fun k=>(k,V.bl true)
theorem ng (R:List Int):(dR R).map (·.1)=R:=by unfold dR; rw [CZ]; exact List.map_id' R
theorem uq (R:List Int) (v:Int):dR (R ++ [v])=dR R ++ [(v,.bl true)]:=by unfold dR; rw [A4]; rfl
theorem kZ (R:List Int):(mp (dR R)).length=R.length:=by unfold mp dR; rw [AM,AM]
theorem yb (R:List Int):(mp (dR R)).map (·.1)=R.map Sum.inl:=by unfold mp dR; rw [CZ,CZ]; rfl
theorem rq {m:Nat} {i:Nat} (h:i < m):(rgI m)[i]? = some (i:Int):=by unfold rgI; rw [AX,Di h]; rfl
theorem jK (m:Nat):(rgI m).length=m:=by unfold rgI; simp
section
variable {P:Program} {w:World} {K:PySem.W.Frag} {mg:Str->Option Value} {base:Heap} {f T:Addr} {fd:FuncData}
theorem bK:aW ["web", "near", "counts", "ready", "gone", "place", "other"] ["web"] (az bP):=⟨rfl,rfl,rfl,by decide +kernel,rfl,by decide +kernel,by decide +kernel⟩
theorem eB:(["place", "web"]:List Str).Nodup:=by decide +kernel
theorem dC:(["place", "counts"]:List Str).Nodup:=by decide +kernel
theorem lb (F:Fun K "peeled_places" "peeled_places" bP f fd) (B:Blt mg) (cNearLists:Cal P w K mg base 1 "near_lists" ["web"] gD) (cTiesAt:Cal P w K mg base 1 "ties_at" ["web", "place"] vV):cB P w K mg base CX0 2 f fd ["web"] kY:=by
 refine F.ok bK (fun vs H Q E h => ?_) (fun cdv A outer s H vs Q E hr h => ?_)
 ·obtain ⟨_,_,_,rfl,_⟩:=hJ.mp h
  rfl
 obtain ⟨r,m,ts,rfl,W,m2,q⟩:=hJ.mp h
 have hu:(ly CX0 P w K mg base ["web", "near", "counts", "ready", "gone", "place", "other"] "peeled_places" (az bP) f cdv A outer s H E).nox.A.units + 1 < cLine:=yh hr
 refine ⟨_,(@ah _ _ _ _ _ (@aQ _ _ 1 _ _ _ _ bK.nd rfl (Or.inl rfl) (bz cNearLists hr (by decide) rfl (@aa _ _ _ _ _ (pv 0) ag rfl)) rfl (by first | exact .inl rfl | exact .inr rfl | assumption))
  (@ah _ _ _ _ _ (@aQ _ _ 2 _ _ _ _ bK.nd rfl (Or.inr rfl) (cw ["place", "web"] [none,some 0] rfl (bI rfl B.b_range (@aa _ _ _ _ _ (@aN _ _ _ _ _ _ _ aM (pv 0) ai (fun _ _=>rfl)) ag rfl)) rfl (fun _ _ _ _ _=>(ak (i:=0) eB rfl (Or.inl rfl))) (fun _ _ _ _ _=>cC) (fun _ _ _ _ _=>(bz cTiesAt hr (by decide) rfl (@aa _ _ _ _ _ (pv 1) (@aa _ _ _ _ _ (pv 0) ag rfl) rfl)))) rfl (by first | exact .inl rfl | exact .inr rfl | assumption))
  (@ah _ _ _ _ _ (dH (i:=3) ["place", "counts"] [none,some 2] rfl bK.nd rfl rfl (bI rfl B.b_range (@aa _ _ _ _ _ (@aN _ _ _ _ _ _ _ aM (pv 0) ai (fun _ _=>rfl)) ag rfl)) rfl (fun _ _ _ _ _=>(ak (i:=0) dC rfl (Or.inl rfl))) (fun _ _ _ _ _=>(uS (aO yf (@aN _ _ _ _ _ _ _ (j4 (K:=K)) (pv 1) (pv 0) (fun _ _=>rfl)) ai (aR _)))) (fun _ _ _ _ _=>(pv 0)))
  (@ah _ _ _ _ _ (@aQ _ _ 4 _ _ _ _ bK.nd rfl (Or.inl rfl) pC rfl (by first | exact .inl rfl | exact .inr rfl | assumption))
  (@ah _ _ _ _ _ (jO Bw (oE (pv 3) (fun _=>rfl))
   (@ah _ _ _ _ _ (@aQ _ _ 5 _ _ _ _ bK.nd rfl (Or.inl rfl) (y7 Bm Em En y8 (pv 3)) rfl (by first | exact .inl rfl | exact .inr rfl | assumption))
   (@ah _ _ _ _ _ (nU hu (pv 4) (pv 5) jh rfl)
   (@au _ _ _ (@bV _ _ _ _ _ _ _ _ Bw rfl (@cj _ _ _ _ (@aN _ _ _ _ _ _ _ cH (pv 1) (pv 5) (fun _ _=>rfl))) (ak (i:=6) bK.nd rfl (Or.inl rfl))
    (@au _ _ _ (@bL _ _ _ _ _ _ _ _ (iK (gu hu (pv 6) (pv 4))) (@ah _ _ _ _ _ (wH (pv 2) (pv 6) t6 ai yP set_list)
     (@au _ _ _ (@bL _ _ _ _ _ _ _ _ (aO dG (@aN _ _ _ _ _ _ _ cH (pv 2) (pv 6) (fun _ _=>rfl)) ai (aR _)) (@au _ _ _ (bR (dy Bm BG BH bT (pv 3) (@aa _ _ _ _ _ (pv 6) ag rfl)))) aV))) aV)) (fun _=>rfl))))))
  (@au _ _ _ (@aS _ _ _ _ (aI (qS hr.hd) rfl B.b_list gC (@aa _ _ _ _ _ (pv 4) ag rfl))))))))),?_⟩
 obtain ⟨t,e1,e2⟩:=W.at'
 have O:=mW W
 refine ⟨_,rfl,dW.mpr ⟨r,m,ts,rfl,W,by omega,by omega,fun n H1 os s1 en lo ro iso => ?_⟩⟩
 have RD:kR m (ts.map (·.2)) (os.map (·.2)):=⟨by rw [AM,lo]; omega,fun j r e=>by
  rw [AX] at e
  obtain ⟨u,eu,rfl⟩:=Cr.mp e
  exact iso j u eu⟩
 refine ⟨_,rfl,r,_,0,_,rfl,rfl,SqT.of (s1 _ _ e1),rfl,m,rfl,by omega,by omega,cJ (lo:=0) (n:=m) (fun i ys H'=>aB H1 H'/\ys=(((rgI m).take i).map (aK (ts.map (·.2)))).map V.int) ⟨aB.refl _,rfl⟩ (small (by omega)) ?_ ?_⟩
 ·rintro i ys H2 hi hy ⟨s2,rfl⟩ R1 R0 r1 r0
  refine bX ⟨_,rfl,_,rfl,kO.mpr ⟨r,m,0 + (i:Int),ts,rfl,(W.same s1).same s2,fun H3 s3=>r1 _ _ ⟨s2.trans s3,?_⟩⟩⟩
  rw [take_snoc (f:=aK (ts.map (·.2))) (rq hi),A4,Er]; rfl
 rintro ys H2 hy ⟨s2,rfl⟩ cl hcl
 rw [A7 (by rw [jK]; exact AS _),show (rgI m).map (aK (ts.map (·.2)))=ct0 (ts.map (·.2)) m from rfl]
 have s12:=s1.trans s2
 have hcl0:=s12.free hcl
 have g3:=ae hcl (.lst ((ct0 (ts.map (·.2)) m).map V.int))
 have ec:upd H2 cl (.lst ((ct0 (ts.map (·.2)) m).map V.int)) cl=some (.lst ((ct0 (ts.map (·.2)) m).map V.int)):=af
 have s3:=s12.trans g3
 generalize upd H2 cl (.lst ((ct0 (ts.map (·.2)) m).map V.int))=H3 at g3 ec s3
 have en3:=g3 _ _ (s2 _ _ en)
 have lc0:(ct0 (ts.map (·.2)) m).length=m:=by unfold ct0; rw [AM,jK]
 refine ⟨_,rfl,r,_,0,_,rfl,rfl,SqT.of (s3 _ _ e1),rfl,m,rfl,by omega,by omega,cJ (lo:=0) (n:=m) (fun i ys H'=>H'=H3/\ys=(((rgI m).take i).filter fun v=>decide (aK (ts.map (·.2)) v<=1)).map V.int) ⟨rfl,rfl⟩ (small (by omega)) ?_ ?_⟩
 ·rintro i ys H4 hi hy ⟨eH,rfl⟩ R1 R0 r1 r0
  have at':atI ((ct0 (ts.map (·.2)) m).map V.int) (0 + (i:Int))=some (.int (aK (ts.map (·.2)) (i:Int))):=by
   rw [Er]
   refine cG ?_
   unfold ct0
   rw [AX,AX,rq hi]; rfl
  have tk:((rgI m).take (i + 1)).filter (fun v=>decide (aK (ts.map (·.2)) v<=1))=((rgI m).take i).filter (fun v=>decide (aK (ts.map (·.2)) v<=1)) ++ if aK (ts.map (·.2)) (i:Int)<=1 then [(i:Int)] else []:=by
   rw [BU,rq hi,ES]
   congr 1
   by_cases c:aK (ts.map (·.2)) (i:Int)<=1
   ·rw [if_pos c]; simp [c]
   ·rw [if_neg c]; simp [c]
  refine ⟨_,rfl,_,rfl,cl,_,_,_,rfl,rfl,SqL.of (by rw [eH]; exact ec),at',_,_,rfl,rfl,_,rfl,?_⟩
  by_cases c:aK (ts.map (·.2)) (i:Int)<=1
  ·rw [decide_eq_true c]
   exact bX ⟨_,rfl,r1 _ _ ⟨eH,by rw [tk,if_pos c,A4,Er]; rfl⟩⟩
  ·rw [decide_eq_false c]
   exact cI (r0 _ ⟨eH,by rw [tk,if_neg c,BM]⟩)
 rintro ys H4 hy ⟨eH,rfl⟩ rl hrl
 rw [eH] at hrl ⊢
 rw [A7 (by rw [jK]; exact AS _),show ((rgI m).filter fun v=>decide (aK (ts.map (·.2)) v<=1))=rd0 (ts.map (·.2)) m from rfl]
 have hrl0:=s3.free hrl
 have g4:=ae hrl (.lst ((rd0 (ts.map (·.2)) m).map V.int))
 have er:upd H3 rl (.lst ((rd0 (ts.map (·.2)) m).map V.int)) rl=some (.lst ((rd0 (ts.map (·.2)) m).map V.int)):=af
 have ec4:=g4 _ _ ec
 have en4:=g4 _ _ en3
 have ncr:cl ≠ rl:=aD ec hrl
 have s4:=s3.trans g4
 have s14:aB H1 (upd H3 rl (.lst ((rd0 (ts.map (·.2)) m).map V.int))):=s2.trans (g3.trans g4)
 have hcl1:=s2.free hcl
 have hrl1:=(s2.trans g3).free hrl
 generalize upd H3 rl (.lst ((rd0 (ts.map (·.2)) m).map V.int))=H5 at g4 er ec4 en4 s4 s14
 refine fun gd hgd => ?_
 have hgd0:=s4.free hgd
 have hgd1:=s14.free hgd
 have g6:=ae hgd (.dK [])
 have eg:upd H5 gd (.dK []) gd=some (.dK (mp (dR []))):=af
 have er6:=g6 _ _ er
 have ec6:=g6 _ _ ec4
 have s6:=s14.trans g6
 have s06:=s4.trans g6
 generalize upd H5 gd (.dK [])=H6 at g6 eg er6 ec6 s6 s06
 have near:∀ {H':Hp},aB H1 H'->∀ {pn:Nat} {u:Addr × List Int},os[pn]? = some u->H' n=some (.lst (os.map fun u => .ref u.1))/\H' u.1=some (.lst (u.2.map V.int)):=fun {H'} s {pn u} eu=>⟨s _ _ en,s _ _ (ro u (AY eu))⟩
 have kl:∀ {G Y C:List Int},PI m (ts.map (·.2)) G Y C->G.length<=m:=fun I=>cU I.pld.1 I.rg
 dsimp only [fI,zY]
 refine jQ (fun σ H'=>∃ (c5 c6:Option V) (G Y C:List Int) (k:Nat),σ=[some (.ref r),some (.ref n),some (.ref cl),some (.ref rl),some (.ref gd),c5,c6]/\aB H H'/\aB H1 H'/\H' cl=some (.lst (C.map V.int))/\H' rl=some (.lst (Y.map V.int))/\H' gd=some (.dK (mp (dR G)))/\PI m (ts.map (·.2)) G Y C/\itP (fV (os.map (·.2))) (rd0 (ts.map (·.2)) m,ct0 (ts.map (·.2)) m) k=((Y,C),G)/\∀ j,j < k->(itP (fV (os.map (·.2))) (rd0 (ts.map (·.2)) m,ct0 (ts.map (·.2)) m) j).1.1 ≠ [])
  (fun _ H'=>m + 1 - uj H' gd) ⟨_,_,[],_,_,0,rfl,s06,s6,ec6,er6,eg,PI.start _ m,rfl,fun j hj=>absurd hj (Dd _)⟩ ?_ ?mono
 case mono=>rintro σ H Q Q' h ⟨v,e,k,t,q⟩; exact ⟨v,e,k,t,h _ _ q⟩
 rintro σ H7 ⟨c5,c6,G,Y,C,kk,rfl,s7,s17,ec7,er7,eg7,I,ekk,nst⟩
 have kG:=kl I
 refine ⟨_,rfl, !(Y.map V.int).isEmpty,.inl ⟨_,SqL.of er7,rfl⟩,?_⟩
 rcases Eo Y with hY | ⟨Y',p,hY⟩
 ·subst hY
  refine cI ⟨_,rfl,gd,_,G,rfl,eg7,yb G,fun l hl => ?_⟩
  refine q l _ G (s7.trans (ae hl _)) (s7.free hl) af I.pld I.rg (fun v hv nv => ?_) ⟨_,RD,kk,by rw [ekk],by rw [ekk],nst⟩
  rcases Int.lt_or_le (aK ((ts.map (·.2)).filter (off G)) v) 2 with z | z
  ·have:=(I.yiff v).mpr ⟨hv,nv,by omega⟩
   cases this
  ·exact z
 rw [Ep] at hY
 subst hY
 rw [show (!(List.map V.int (Y' ++ [p])).isEmpty)=true by simp]
 obtain ⟨rp,np,cp⟩:=(I.yiff p).mp (by simp)
 obtain ⟨pn,rfl⟩:∃ k:Nat,p=k:=⟨p.toNat,by omega⟩
 refine bX ⟨_,rfl,.inl ⟨rfl,_,SqL.of er7⟩,rl,_,.int pn,rfl,rfl,er7,?_,?_⟩
 ·rw [A4,AQ]; simp
 rw [show (List.map V.int (Y' ++ [(pn:Int)])).dropLast=Y'.map V.int by rw [A4]; exact List.dropLast_concat]
 have er8:upd H7 rl (.lst (Y'.map V.int)) rl=some (.lst (Y'.map V.int)):=af
 have ec8:upd H7 rl (.lst (Y'.map V.int)) cl=some (.lst (C.map V.int)):=by rw [aE ncr]; exact ec7
 have eg8:upd H7 rl (.lst (Y'.map V.int)) gd=some (.dK (mp (dR G))):=by rw [aE (gK eg7 er7 (by intro z; cases z))]; exact eg7
 have s8:=aB.bG s7 hrl0 (.lst (Y'.map V.int))
 have s18:=aB.bG s17 hrl1 (.lst (Y'.map V.int))
 generalize upd H7 rl (.lst (Y'.map V.int))=H8 at er8 ec8 eg8 s8 s18
 have hput:nP H8 gd (.int pn) (.bl true) (upd H8 gd (.dK (putK (mp (dR G)) (Sum.inl (pn:Int)) (.bl true)))):=nP.k (k:=Sum.inl (pn:Int)) eg8 (by rw [kZ]; exact i7 (by omega))
 rw [vX (by rw [ng]; exact np), <- uq] at hput
 refine ⟨_,rfl,_,rfl,gd,_,rfl,hput,?_⟩
 have eg9:upd H8 gd (.dK (mp (dR (G ++ [(pn:Int)])))) gd=some (.dK (mp (dR (G ++ [(pn:Int)])))):=af
 have er9:upd H8 gd (.dK (mp (dR (G ++ [(pn:Int)])))) rl=some (.lst (Y'.map V.int)):=by rw [aE (gK er8 eg8 (by intro z; cases z))]; exact er8
 have ec9:upd H8 gd (.dK (mp (dR (G ++ [(pn:Int)])))) cl=some (.lst (C.map V.int)):=by rw [aE (gK ec8 eg8 (by intro z; cases z))]; exact ec8
 have s9:=aB.bG s8 hgd0 (.dK (mp (dR (G ++ [(pn:Int)]))))
 have s19:=aB.bG s18 hgd1 (.dK (mp (dR (G ++ [(pn:Int)]))))
 generalize upd H8 gd (.dK (mp (dR (G ++ [(pn:Int)]))))=H9 at eg9 er9 ec9 s9 s19
 have pl:pn < os.length:=by omega
 obtain ⟨uu,eu⟩:∃ u,os[pn]? = some u:=⟨_,AO pl⟩
 have isu:=iso pn _ eu
 have enb:fV (os.map (·.2)) (pn:Int)=uu.2:=by unfold fV; rw [BO,AZ,AX,eu]; rfl
 have gl:G.length < m:=by
  have:=cU (fz I.pld.1 np) (m:=m) fun v hv=>by
   rcases A2.mp hv with z | z
   ·exact I.rg v z
   ·rw [AV] at z; subst z; exact rp
  rw [AQ] at this
  exact this
 refine ⟨_,rfl,_,rfl,n,_,(pn:Int),_,rfl,rfl,SqL.of (near s19 eu).1,cG (by rw [AX,eu]; rfl),uu.1,rfl,⟨_,SqL.of (near s19 eu).2⟩,fJ (xs:=uu.2.map V.int) (fun j σ H'=>∃ (c6:Option V) (Y5 C5:List Int),σ=[some (.ref r),some (.ref n),some (.ref cl),some (.ref rl),some (.ref gd),some (.int pn),c6]/\aB H H'/\aB H1 H'/\H' cl=some (.lst (C5.map V.int))/\H' rl=some (.lst (Y5.map V.int))/\H' gd=some (.dK (mp (dR (G ++ [(pn:Int)]))))/\PJ m (ts.map (·.2)) G pn (uu.2.take j) Y5 C5/\(uu.2.take j).foldl (pin (G ++ [(pn:Int)])) (Y',C)=(Y5,C5))
   ⟨_,Y',C,rfl,s9,s19,ec9,er9,eg9,I.pop,rfl⟩ (fun j σ H' _ z => ?_) ?_ ?_⟩
 ·obtain ⟨_,_,_,_,_,s',_⟩:=z
  exact SqL.of (near s' eu).2
 ·rintro j x σ H10 hx ⟨c6,Y5,C5,rfl,s10,s110,ec10,er10,eg10,J,fo⟩
  obtain ⟨o,eo,rfl⟩:=jt hx
  have oin:o ∈ nbs (ts.map (·.2)) (pn:Int):=(isu.2 o).mp (AY eo)
  have ao:Adj (ts.map (·.2)) pn o:=oin
  have oro:=(jF O ao).2
  obtain ⟨on,rfl⟩:∃ k:Nat,o=k:=⟨o.toNat,by omega⟩
  have tk:uu.2.take (j + 1)=uu.2.take j ++ [(on:Int)]:=by rw [BU,eo]; rfl
  refine ⟨_,rfl,_,rfl,gd,_,rfl,fE.k (k:=Sum.inl (on:Int)) eg10,_,rfl,?_⟩
  rw [sq,ng]
  by_cases ho:(on:Int) ∈ G ++ [(pn:Int)]
  ·rw [decide_eq_true ho]
   exact cI ⟨_,Y5,C5,rfl,s10,s110,ec10,er10,eg10,by rw [tk]; exact J.skip ho,by rw [cP eo,fo]; unfold pin; rw [if_pos ho]⟩
  rw [decide_eq_false ho]
  have nD:(on:Int) ∉ uu.2.take j:=fun z=>by
   obtain ⟨i,ei⟩:=Bt.mp z
   rw [B7] at ei
   split at ei
   ·rename_i hij
    have nd:uu.2.Nodup:=isu.1.imp fun {a b} h=>by omega
    have:=(Fc (by have:=(AU.mp ei).1; omega) nd).mp (ei.trans eo.symm)
    omega
   ·cases ei
  have nG:(on:Int) ∉ G:=fun z=>ho (Bp _ z)
  have c1:1<=aK ((ts.map (·.2)).filter (off G)) on:=by
   obtain ⟨ne,td⟩:=(eA O).mp ao
   refine gG (t:=nrm on pn) (dZ _ _) (Cj.mpr ⟨by rw [cu]; exact td,?_⟩)
   rcases FD (on:Int) pn with y | y
   ·rw [cg y]; unfold off; simp [np,nG]
   ·rw [cu,cg y]; unfold off; simp [np,nG]
  have J2:=J.take oro ho nD c1
  have lC5:=J.clen
  have eC:(C5.map V.int)[on]? = some (.int (gt C5 on)):=by
   have:=yz lC5 oro
   rw [BO] at this
   rw [AX,this]; rfl
  have lY5:Y5.length<=m:=cU J.ynd fun v hv=>((J.yiff v).mp hv).1
  have ix:ixN (C5.map V.int).length (on:Int)=some on:=by
   rw [AM]; unfold ixN; simp; omega
  have fo2:(uu.2.take (j + 1)).foldl (pin (G ++ [(pn:Int)])) (Y',C)=(if gt C5 on - 1=1 then Y5 ++ [(on:Int)] else Y5,C5.set on (gt C5 on - 1)):=by
   rw [cP eo,fo]; unfold pin; rw [if_neg ho,BO]
  rw [BO] at J2
  refine bX ⟨_,rfl,_,rfl,cl,_,on,_,rfl,rfl,SqL.of ec10,eC,_,_,rfl,rfl,cl,_,_,on,rfl,rfl,ec10,ix,?_⟩
  have ec11:upd H10 cl (.lst ((C5.map V.int).set on (.int (gt C5 on - 1)))) cl=some (.lst ((C5.set on (gt C5 on - 1)).map V.int)):=by rw [af,Hd]
  have er11:upd H10 cl (.lst ((C5.map V.int).set on (.int (gt C5 on - 1)))) rl=some (.lst (Y5.map V.int)):=by rw [aE (BN ncr)]; exact er10
  have eg11:upd H10 cl (.lst ((C5.map V.int).set on (.int (gt C5 on - 1)))) gd=some (.dK (mp (dR (G ++ [(pn:Int)])))):=by rw [aE (gK eg10 ec10 (by intro z; cases z))]; exact eg10
  have s11:=aB.bG s10 hcl0 (.lst ((C5.map V.int).set on (.int (gt C5 on - 1))))
  have s111:=aB.bG s110 hcl1 (.lst ((C5.map V.int).set on (.int (gt C5 on - 1))))
  generalize upd H10 cl (.lst ((C5.map V.int).set on (.int (gt C5 on - 1))))=H11 at ec11 er11 eg11 s11 s111
  have e11:atI ((C5.set on (gt C5 on - 1)).map V.int) (on:Int)=some (.int (gt C5 on - 1)):=cG (by rw [AX,BX (by omega)]; rfl)
  refine ⟨_,rfl,_,rfl,cl,_,(on:Int),_,rfl,rfl,SqL.of ec11,e11,rfl,_,rfl,?_⟩
  by_cases c:gt C5 on - 1=1
  ·rw [decide_eq_true (by rw [c])]
   rw [if_pos c] at J2 fo2
   exact bX ⟨_,rfl,.inl ⟨rfl,_,SqL.of er11⟩,_,rfl,rl,_,_,rfl,rfl,er11,by rw [AM]; exact i7 (by omega),_,Y5 ++ [(on:Int)],_,rfl,aB.bG s11 hrl0 _,aB.bG s111 hrl1 _,by rw [aE ncr]; exact ec11,by rw [af,A4]; rfl,by rw [aE (gK eg11 er11 (by intro z; cases z))]; exact eg11,by rw [tk]; exact J2,fo2⟩
  ·rw [decide_eq_false (by intro z; injection z with z; exact c z)]
   rw [if_neg c] at J2 fo2
   exact cI ⟨_,Y5,_,rfl,s11,s111,ec11,er11,eg11,by rw [tk]; exact J2,fo2⟩
 ·rintro σ H10 ⟨c6,Y5,C5,rfl,s10,s110,ec10,er10,eg10,J,fo⟩
  rw [AM,A7 (AS _)] at J fo
  have I2:=J.done O I.pld I.rg rp np cp fun x=>isu.2 x
  refine ⟨⟨_,_,G ++ [(pn:Int)],Y5,C5,kk + 1,rfl,s10,s110,ec10,er10,eg10,I2,?_,fun j hj => ?_⟩,?_⟩
  ·show ((fV (os.map (·.2)) ((itP _ _ kk).1.1.getLastD 0)).foldl (pin ((itP _ _ kk).2 ++ [(itP _ _ kk).1.1.getLastD 0])) ((itP _ _ kk).1.1.dropLast,(itP _ _ kk).1.2),(itP _ _ kk).2 ++ [(itP _ _ kk).1.1.getLastD 0])=_
   rw [ekk]
   have e1:(Y' ++ [(pn:Int)]).getLastD 0=pn:=by simp
   have e2:(Y' ++ [(pn:Int)]).dropLast=Y':=by simp
   dsimp only
   rw [e1,e2,enb,fo]
  ·rcases Cp j kk with z | z
   ·exact nst j z
   ·rw [show j=kk by omega,ekk]; simp
  ·rw [jG eg10,jG eg7,kZ,kZ,AQ]
   show m + 1 - (G.length + 1) < m + 1 - G.length
   omega
end
open PySem L2
structure Grp (m:Nat) (ns:List (List Int)) (G:List Int):Prop where
 len:G.length=m
 iff:∀ u v:Int,0<=u/\u < m->0<=v/\v < m->(gt G u=gt G v ↔ Con ns u v)
theorem wu {m:Nat} {u:Int} (h:0<=u/\u < m):gt (rgI m) u=u:=by
 unfold gt rgI
 rw [AZ,AX,Di (by omega)]
 show ((u.toNat:Nat):Int)=u
 omega
theorem Grp.start (m:Nat):Grp m [] (rgI m):=by
 refine ⟨by unfold rgI; simp,fun u v hu hv => ?_⟩
 rw [wu hu,wu hv]
 refine ⟨fun e=>e ▸ .refl _,fun c => ?_⟩
 induction c with
 | refl=>rfl
 | step _ a _=>exact absurd a (by unfold Adj nbs; simp)
theorem Con.mono {ns ns':List (List Int)} (h:∀ t ∈ ns,t ∈ ns') {u v:Int} (c:Con ns u v):Con ns' u v:=by
 induction c with
 | refl=>exact .refl _
 | step _ a ih =>
  obtain ⟨p,hp,hx⟩:=dU.mp a
  exact .step ih (dU.mpr ⟨p,h p hp,hx⟩)
def mrg (G:List Int) (a b:Int):List Int:=G.map fun x=>if x=gt G b then gt G a else x
theorem ou {m:Nat} {G:List Int} (h:G.length=m) {a b u:Int} (hu:0<=u/\u < m):gt (mrg G a b) u=if gt G u=gt G b then gt G a else gt G u:=by
 have e:G[u.toNat]? = some (gt G u):=by
  unfold gt
  rw [AO (by omega),AZ,AO (by omega)]; rfl
 show (mrg G a b).getD u.toNat 0=_
 unfold mrg
 rw [AZ,AX,e]; rfl
theorem yc {m:Nat} {ns:List (List Int)} (O:Ok m ns) {a b:Int} (a0:0<=a) (ab:a<=b) (bm:b < m):Ok m (ns ++ [[a,b]]):=fun p hp=>by
 rcases A2.mp hp with z | z
 ·exact O p z
 ·rw [AV] at z; exact ⟨a,b,z,a0,ab,bm⟩
theorem Grp.add {m:Nat} {ns:List (List Int)} (O:Ok m ns) {G:List Int} (h:Grp m ns G) {a b:Int} (a0:0<=a) (ab:a<=b) (bm:b < m):Grp m (ns ++ [[a,b]]) (mrg G a b):=by
 have O':=yc O a0 ab bm
 have up:∀ {u v:Int},Con ns u v->Con (ns ++ [[a,b]]) u v:=fun c=>c.mono fun t ht=>Bp _ ht
 have ha:0<=a/\a < m:=⟨a0,by omega⟩
 have hb:0<=b/\b < m:=⟨by omega,bm⟩
 have tie:Con (ns ++ [[a,b]]) a b:=by
  by_cases c:a=b
  ·subst c; exact .refl _
  ·exact .one ((df O').mpr ⟨a,b,Bi _ (by simp),c,.inl ⟨rfl,rfl⟩⟩)
 refine ⟨by unfold mrg; rw [AM]; exact h.len,fun u v hu hv=>⟨fun e => ?_,fun c => ?_⟩⟩
 ·rw [ou h.len hu,ou h.len hv] at e
  by_cases c1:gt G u=gt G b
  ·have u1:=up ((h.iff u b hu hb).mp c1)
   rw [if_pos c1] at e
   by_cases c2:gt G v=gt G b
   ·exact u1.trans ((up ((h.iff v b hv hb).mp c2)).symm O')
   ·rw [if_neg c2] at e
    exact (u1.trans (tie.symm O')).trans (up ((h.iff a v ha hv).mp e))
  ·rw [if_neg c1] at e
   by_cases c2:gt G v=gt G b
   ·rw [if_pos c2] at e
    exact ((up ((h.iff u a hu ha).mp e)).trans tie).trans ((up ((h.iff v b hv hb).mp c2)).symm O')
   ·rw [if_neg c2] at e
    exact up ((h.iff u v hu hv).mp e)
 ·clear hv
  induction c with
  | refl=>rfl
  | step c1 aj ih =>
   rename_i x y
   have rx:=jF O' aj
   refine (ih).trans ?_
   obtain ⟨c,d,hp,ne,hx⟩:=(df O').mp aj
   rw [ou h.len rx.1,ou h.len rx.2]
   rcases A2.mp hp with z | z
   ·have:gt G x=gt G y:=(h.iff x y rx.1 rx.2).mpr (.one ((df O).mpr ⟨c,d,z,ne,hx⟩))
    rw [this]
   ·rw [AV] at z
    cases z
    rcases hx with ⟨rfl,rfl⟩ | ⟨rfl,rfl⟩
    ·simp
    ·simp
theorem wx:fF []:=fun pre t post e=>by cases pre <;> cases e
theorem ur {E:List (List Int)} (w:fF E) {a b:Int} (h:¬ Con E a b):fF (E ++ [[a,b]]):=fun pre t post e x y et c=>by
 rcases Eo post with z | ⟨post',l,z⟩
 ·subst z
  obtain ⟨e1,e2⟩:=GJ e rfl
  cases e2
  cases et
  rw [e1] at h
  exact h c
 ·rw [Ep] at z
  subst z
  have e':E ++ [[a,b]]=(pre ++ t :: post') ++ [l]:=by rw [e]; simp
  obtain ⟨e1,_⟩:=GJ e' rfl
  exact w pre t post' e1 x y et c
abbrev sM:Sp:=fun vs H Q _=>∃ (r:Addr) (m:Nat) (ts:List (Addr × List Int)),vs=[.ref r]/\Wb H r m ts/\m<=200/\∀ (H':Hp) (b:Bool),aB H H'->(b=true ↔ fF (ts.map (·.2)))->Q (.bl b) H'
@[irreducible] def lh:Sp:=sM
theorem fB {vs:List V} {H:Hp} {Q:VK} {E:XK}:lh vs H Q E ↔ sM vs H Q E:=by
 delta lh
 exact CS
section
variable {P:Program} {w:World} {K:PySem.W.Frag} {mg:Str->Option Value} {base:Heap} {f T:Addr} {fd:FuncData}
theorem e6:aW ["web", "group", "one", "other"] ["web"] (az eU):=⟨rfl,rfl,rfl,by decide +kernel,rfl,by decide +kernel,by decide +kernel⟩
theorem dc:(["mark", "group", "other", "one"]:List Str).Nodup:=by decide +kernel
theorem uv (F:Fun K "_law_is_wood" "_law_is_wood" eU f fd) (B:Blt mg):cB P w K mg base CX0 1 f fd ["web"] lh:=by
 refine F.ok e6 (fun vs H Q E h => ?_) (fun cdv A outer s H vs Q E hr h => ?_)
 ·obtain ⟨_,_,_,rfl,_⟩:=fB.mp h
  rfl
 obtain ⟨r,m,ts,rfl,W,m2,q⟩:=fB.mp h
 refine ⟨_,(@ah _ _ _ _ _ (@aQ _ _ 1 _ _ _ _ e6.nd rfl (Or.inr rfl) (aI (kD hr.hd) rfl B.b_list gC (@aa _ _ _ _ _ (aI js rfl B.b_range pI (@aa _ _ _ _ _ (@aN _ _ _ _ _ _ _ aM (pv 0) ai (fun _ _=>rfl)) ag rfl)) ag rfl)) rfl (by first | exact .inl rfl | exact .inr rfl | assumption))
  (@ah _ _ _ _ _ (@bV _ _ _ _ _ _ _ _ Bw rfl (@nA _ _ _ _ (@aN _ _ _ _ _ _ _ aM (pv 0) ai (fun _ _=>rfl))) (bo rfl (aA (ak (i:=2) e6.nd rfl (Or.inr rfl)) (aA (ak (i:=3) e6.nd rfl (Or.inr rfl)) aT)))
   (@ah _ _ _ _ _ (@bL _ _ _ _ _ _ _ _ (aO dG (@aN _ _ _ _ _ _ _ cH (pv 1) (pv 2) (fun _ _=>rfl)) (@aN _ _ _ _ _ _ _ cH (pv 1) (pv 3) (fun _ _=>rfl)) (aR _)) (@au _ _ _ (@aS _ _ _ _ jh)) aV)
   (@au _ _ _ (@aQ _ _ 1 _ _ _ _ e6.nd rfl (Or.inr rfl) (cw ["mark", "group", "other", "one"] [none,some 1,some 3,some 2] rfl (@cj _ _ _ _ (pv 1)) rfl (fun _ _ _ _ _=>(ak (i:=0) dc rfl (Or.inl rfl))) (fun _ _ _ _ _=>cC) (fun _ _ _ _ _=>(uC (aO dG (pv 0) (@aN _ _ _ _ _ _ _ (j4 (K:=K)) (pv 1) (pv 2) (fun _ _=>rfl)) (aR _)) (@aN _ _ _ _ _ _ _ (j4 (K:=K)) (pv 1) (pv 3) (fun _ _=>rfl)) (pv 0)))) rfl (by first | exact .inl rfl | exact .inr rfl | assumption)))) (fun _=>rfl))
  (@au _ _ _ (@aS _ _ _ _ jh)))),?_⟩
 obtain ⟨t,e1,e2⟩:=W.at'
 have O:=mW W
 refine ⟨_,rfl,r,_,0,_,rfl,rfl,SqT.of e1,rfl,m,rfl,fun ra hra=>⟨ra,m,rfl,af,by omega,fun gl hgl => ?_⟩⟩
 have g1:=(ae hra (.rng 0 m)).trans (ae hgl (.lst ((List.range m).map fun i:Nat=>V.int (i:Int))))
 have egl:upd (upd H ra (.rng 0 m)) gl (.lst ((List.range m).map fun i:Nat=>V.int (i:Int))) gl=some (.lst ((rgI m).map V.int)):=by rw [af]; unfold rgI; rw [CZ]; rfl
 generalize upd (upd H ra (.rng 0 m)) gl (.lst ((List.range m).map fun i:Nat=>V.int (i:Int)))=H1 at g1 egl
 refine ⟨_,rfl,r,_,1,_,rfl,rfl,SqT.of (g1 _ _ e1),rfl,t,rfl,⟨_,SqT.of (g1 _ _ e2)⟩,rA (xs:=ts.map fun u => .ref u.1) (fun i σ H'=>∃ (gl:Addr) (G:List Int) (c2 c3:Option V),σ=[some (.ref r),some (.ref gl),c2,c3]/\aB H H'/\H' gl=some (.lst (G.map V.int))/\Grp m ((ts.take i).map (·.2)) G/\fF ((ts.take i).map (·.2))) ⟨gl,_,_,_,rfl,g1,egl,Grp.start m,wx⟩ (fun i σ H' _ z => ?_) ?_ ?_⟩
 ·obtain ⟨_,_,_,_,_,s',_⟩:=z
  exact SqT.of (s' _ _ e2)
 ·rintro i x σ H2 hx ⟨gl,G,c2,c3,rfl,s2,eg,hG,wd⟩
  obtain ⟨u,eu,rfl⟩:=item hx
  have mu:=AY eu
  obtain ⟨a,b,ab2,a0,ab,bm⟩:=W.pr u mu
  have hu:=W.tup u mu
  rw [ab2] at hu
  have hu':=s2 _ _ hu
  have lG:G.length=m:=hG.len
  have tk:(ts.take (i + 1)).map (·.2)=(ts.take i).map (·.2) ++ [[a,b]]:=by rw [take_snoc (f:=(·.2)) eu,ab2]
  have at':∀ v:Int,0<=v/\v < m->atI (G.map V.int) v=some (.int (gt G v)):=fun v hv=>by
   obtain ⟨k,rfl⟩:∃ k:Nat,v=k:=⟨v.toNat,by omega⟩
   have:=yz lG hv
   rw [BO] at this
   exact cG (by rw [AX,this]; rfl)
  have ra:0<=a/\a < m:=⟨a0,by omega⟩
  have rb:0<=b/\b < m:=⟨by omega,bm⟩
  refine ⟨u.1,_,rfl,SqT.of hu',rfl,_,_,rfl,_,_,rfl,rfl,_,rfl,_,rfl,gl,_,a,_,rfl,rfl,SqL.of eg,at' a ra,_,rfl,_,rfl,gl,_,b,_,rfl,rfl,SqL.of eg,at' b rb,rfl,_,rfl,?_⟩
  by_cases c:gt G a=gt G b
  ·rw [decide_eq_true (by rw [c])]
   refine bX (q H2 false s2 ⟨fun h=>by (cases h),fun w => ?_⟩)
   refine (w ((ts.take i).map (·.2)) [a,b] ((ts.drop (i + 1)).map (·.2)) ?_ a b rfl ((hG.iff a b ra rb).mp c)).elim
   have ei:i < ts.length:=(AU.mp eu).1
   have gi:ts[i]=u:=(AU.mp eu).2
   have:=congrArg (List.map (fun u:Addr × List Int=>u.2)) (B0 i ts)
   rw [C1 ei,gi,A4,Bj,ab2] at this
   exact this.symm
  ·rw [decide_eq_false (by intro z; injection z with z; exact c z)]
   refine cI ⟨_,rfl,gl,rfl,⟨_,SqL.of eg⟩,cq (xs:=G.map V.int) (fun j ys H'=>H'=H2/\ys=(((G.take j).map fun x=>if x=gt G b then gt G a else x)).map V.int) ⟨rfl,rfl⟩ (by rw [AM]; exact small (by omega)) (fun j ys H' _ z=>by rw [z.1]; exact SqL.of eg) ?_ ?_⟩
   ·rintro j x ys H' hx hy ⟨eH,rfl⟩ R1 R0 r1 r0
    obtain ⟨v,ev,rfl⟩:=jt hx
    have eg4:SqL K H' gl (G.map V.int):=by rw [eH]; exact SqL.of eg
    refine bX ⟨_,rfl,_,rfl,_,rfl,gl,_,b,_,rfl,rfl,eg4,at' b rb,rfl,_,rfl,?_⟩
    by_cases d:v=gt G b
    ·rw [decide_eq_true (by rw [d])]
     refine bX ⟨_,rfl,_,rfl,gl,_,a,_,rfl,rfl,eg4,at' a ra,r1 _ _ ⟨eH,?_⟩⟩
     rw [take_snoc (f:=fun x=>if x=gt G b then gt G a else x) ev,A4,if_pos d]; rfl
    ·rw [decide_eq_false (by intro z; injection z with z; exact d z)]
     refine cI ⟨_,rfl,r1 _ _ ⟨eH,?_⟩⟩
     rw [take_snoc (f:=fun x=>if x=gt G b then gt G a else x) ev,A4,if_neg d]; rfl
   ·rintro ys H' hy ⟨eH,rfl⟩ l hl
    rw [eH] at hl ⊢
    rw [AM,A7 (AS _)]
    have g5:=ae hl (.lst ((mrg G a b).map V.int))
    refine ⟨l,mrg G a b,_,_,rfl,s2.trans g5,af,?_,?_⟩
    ·rw [tk]
     refine hG.add (fun t ht=>O t ?_) a0 ab bm
     obtain ⟨v,hv,rfl⟩:=Bc.mp ht
     exact BK (f:=(·.2)) (C6 hv)
    ·rw [tk]
     exact ur wd fun z=>c ((hG.iff a b ra rb).mpr z)
 ·rintro σ H2 ⟨gl,G,c2,c3,rfl,s2,eg,hG,wd⟩
  rw [AM,A7 (AS _)] at wd
  exact q H2 true s2 ⟨fun _=>wd,fun _=>rfl⟩
end
abbrev nh:Sp:=fun vs H Q _=>∃ (p:Addr) (Z:List Int),vs=[.ref p]/\(H p=some (.lst (Z.map V.int))\/H p=some (.tup (Z.map V.int)))/\Z.length<=500/\∀ H',aB H H'->Q (.bl true) H'
@[irreducible] def gc:Sp:=nh
theorem dD {vs:List V} {H:Hp} {Q:VK} {E:XK}:gc vs H Q E ↔ nh vs H Q E:=by
 delta gc
 exact CS
section
variable {P:Program} {w:World} {K:PySem.W.Frag} {mg:Str->Option Value} {base:Heap} {f T:Addr} {fd:FuncData}
theorem uw:aW ["found"] ["found"] (az eV):=⟨rfl,rfl,rfl,by decide +kernel,rfl,by decide +kernel,by decide +kernel⟩
theorem lM:(["one"]:List Str).Nodup:=by decide +kernel
theorem ux (F:Fun K "_law_wholes" "_law_wholes" eV f fd) (B:Blt mg):cB P w K mg base CX0 1 f fd ["found"] gc:=by
 refine F.ok uw (fun vs H Q E h => ?_) (fun cdv A outer s H vs Q E hr h => ?_)
 ·obtain ⟨_,_,rfl,_⟩:=dD.mp h
  rfl
 obtain ⟨p,Z,rfl,ep,l2,q⟩:=dD.mp h
 refine ⟨_,(@au _ _ _ (@aS _ _ _ _ (aq (j2 rfl) rfl B.b_all rd (@aa _ _ _ _ _ (cw ["one"] [none] rfl (zu (pv 0)) rfl (fun _ _ _ _ _=>(ak (i:=0) lM rfl (Or.inl rfl))) (fun _ _ _ _ _=>cC) (fun _ _ _ _ _=>(yJ (aq (iw (K:=K)) rfl B.b_isinstance cF (@aa _ _ _ _ _ (pv 0) (@aa _ _ _ _ _ (hZ (v := .ty "int") rfl B.b_int nW rfl) ag rfl) rfl)) (yI (yK (aq (iw (K:=K)) rfl B.b_isinstance cF (@aa _ _ _ _ _ (pv 0) (@aa _ _ _ _ _ (hZ (v := .ty "bool") rfl B.b_bool xP rfl) ag rfl) rfl))))))) ag rfl)))),?_⟩
 refine ⟨_,rfl,p,rfl,tK (xs:=Z.map V.int) (fun i ys H'=>H'=H/\ys=((Z.take i).map fun _=>true).map V.bl) ep ⟨rfl,rfl⟩ (by rw [AM]; exact small (by omega)) (fun i ys H' z=>by rw [z.1]) ?_ ?_⟩
 ·rintro i x ys H3 hx hy ⟨eH,rfl⟩ R1 R0 r1 r0
  obtain ⟨v,ev,rfl⟩:=jt hx
  refine bX ⟨_,rfl,.int v, "int",_,true,rfl,.int v,rfl,_,rfl,bX ⟨_,rfl,.int v, "bool",_,false,rfl,.int v,rfl,_,rfl,r1 _ _ ⟨eH,?_⟩⟩⟩
  rw [take_snoc (f:=fun _:Int=>true) ev,A4]; rfl
 rintro ys H3 hy ⟨eH,rfl⟩ l hl
 rw [eH] at hl ⊢
 rw [AM,A7 (AS _)]
 have g4:=ae hl (.lst ((Z.map fun _=>true).map V.bl))
 refine ⟨l,_,rfl,SqL.of af,?_⟩
 rw [show (Z.map fun _=>true).all id=true by simp]
 exact q _ g4
end
open PySem L2
abbrev sN:Stmt:=di
theorem wz {κ : Type} [DecidableEq κ] (kvs:List (κ × V)) (k : κ) (v:V):(putK kvs k v).length<=kvs.length + 1:=by
 unfold putK
 split
 ·rw [AM]; omega
 ·rw [AQ]; exact AS _
theorem qh:∀ {l:List Int},l.Nodup->∀ {i j:Nat} {x:Int},l[i]? = some x->l[j]? = some x->i=j
 | [],_,i,_,_,h,_=>by simp at h
 | a :: l,nd,0,0,_,_,_=>rfl
 | a :: l,nd,0,j + 1,x,h1,h2=>by
  have e:a=x:=by simpa using h1
  subst e
  exact absurd (AY (by simpa using h2)) (B8.mp nd).1
 | a :: l,nd,i + 1,0,x,h1,h2=>by
  have e:a=x:=by simpa using h2
  subst e
  exact absurd (AY (by simpa using h1)) (B8.mp nd).1
 | a :: l,nd,i + 1,j + 1,x,h1,h2=>by
  rw [qh (B8.mp nd).2 (i:=i) (j:=j) (x:=x) (by simpa using h1) (by simpa using h2)]
theorem yd {n k:Nat} (h:k < n):ixN n (k:Int)=some k:=by
 unfold ixN
 simp
 omega
theorem hu1 {A:Around} {k:Nat} (hr:du k A):A.units + 1 < cLine:=CV (Df (by decide:1<=64) _) hr.units
def lp (p:List Int):Bool:=decide (p.getD 0 0=p.getD 1 0)
def cn2 (ns:List Int) (ps:List (List Int)) (i:Nat):Nat:=(ps.map (mi ns)).count i + ((ps.filter lp).map (mi ns)).count i
def hW (ns:List Int) (m:Nat) (ps:List (List Int)):List Int:=(List.range m).map fun i=>((cn2 ns ps i:Nat):Int)
theorem gf (ns:List Int) (m:Nat) (ps:List (List Int)):(hW ns m ps).length=m:=by unfold hW; rw [AM,Ci]
theorem jL {ns:List Int} {m:Nat} {ps:List (List Int)} {k:Nat} (h:k < m):(hW ns m ps)[k]? = some ((cn2 ns ps k:Nat):Int):=by
 unfold hW
 rw [AX,Di h]; rfl
theorem wA (ns:List Int) (ps:List (List Int)) (p:List Int) (i:Nat):cn2 ns (ps ++ [p]) i=cn2 ns ps i + if mi ns p=i then 1 + (if lp p=true then 1 else 0) else 0:=by
 unfold cn2
 rw [A4,Fd,ES,A4,Fd,Bj,DS,FK]
 by_cases h:lp p=true
 ·rw [CL h,GW,Bj,DS,FK]
  by_cases e:mi ns p=i
  ·rw [if_pos (by simpa using e),if_pos e,if_pos h]; omega
  ·rw [if_neg (by simpa using e),if_neg e]; omega
 ·rw [D8 h,GW,DS,G4]
  by_cases e:mi ns p=i
  ·rw [if_pos (by simpa using e),if_pos e,if_neg h]; omega
  ·rw [if_neg (by simpa using e),if_neg e]; omega
theorem uy {ns:List Int} {m:Nat} {ps:List (List Int)} {p:List Int} (h:mi ns p < m):(hW ns m ps).set (mi ns p) (((cn2 ns ps (mi ns p):Nat):Int) + 1 + (if lp p=true then 1 else 0))=hW ns m (ps ++ [p]):=by
 refine Cy fun i => ?_
 by_cases hi:i < m
 ·rw [jL hi,wA]
  by_cases e:mi ns p=i
  ·subst e
   rw [BX (by rw [gf]; exact h),if_pos rfl]
   by_cases hl:lp p=true
   ·rw [if_pos hl,if_pos hl]; congr 1
   ·rw [if_neg hl,if_neg hl]; congr 1
  ·rw [Cc e,jL hi,if_neg e]
   rfl
 ·rw [Bl (by rw [C7,gf]; omega),Bl (by rw [gf]; omega)]
open Classical in
theorem uz {ns:List Int} {m:Nat} {ps:List (List Int)} (h:ns.Perm (rgI m)) (hm:∀ p ∈ ps,mi ns p < m):(((hW ns m ps).map fun c=>decide (c < 2)).all id)=kX ns m ps:=by
 unfold kX
 rw [CM,decide_eq_true_iff,CT]
 constructor
 ·intro ha
  have hc:∀ i < m,cn2 ns ps i<=1:=fun i hi=>by
   have:=ha (decide (((cn2 ns ps i:Nat):Int) < 2)) (Bc.mpr ⟨_,AY (jL hi),rfl⟩)
   have:=of_decide_eq_true this
   omega
  refine ⟨h,fun p hp e => ?_,fun i hi => ?_⟩
  ·have c1:=hc _ (hm p hp)
   unfold cn2 at c1
   have a1:0 < (ps.map (mi ns)).count (mi ns p):=BW.mpr (BK hp)
   have a2:0 < ((ps.filter lp).map (mi ns)).count (mi ns p):=BW.mpr (BK (Cj.mpr ⟨hp,decide_eq_true e⟩))
   omega
  ·have c1:=hc i hi
   unfold cn2 at c1
   omega
 ·rintro ⟨_,hp,hc⟩ x hx
  obtain ⟨c,hc2,rfl⟩:=Bc.mp hx
  unfold hW at hc2
  obtain ⟨i,hi,rfl⟩:=Bc.mp hc2
  have e:ps.filter lp=[]:=Ft.mpr fun p hp' z=>hp p hp' (of_decide_eq_true z)
  have c1:=hc i (BP.mp hi)
  refine decide_eq_true ?_
  show ((cn2 ns ps i:Nat):Int) < 2
  unfold cn2
  rw [e]
  simp
  omega
abbrev ni:Sp:=fun vs H Q _=>∃ (b o e:Addr) (m:Nat) (ts:List (Addr × List Int)) (ns:List Int),vs=[.ref b,.ref o,.ref e]/\Wb H b m ts/\m<=400/\H o=some (.lst (ns.map V.int))/\H e=some (.tup [])/\ns.length<=500/\∀ H',aB H H'->Q (.bl (kX ns m (ts.map (·.2)))) H'
@[irreducible] def gg:Sp:=ni
theorem fC {vs:List V} {H:Hp} {Q:VK} {E:XK}:gg vs H Q E ↔ ni vs H Q E:=by
 delta gg
 exact CS
section
variable {P:Program} {w:World} {K:PySem.W.Frag} {mg:Str->Option Value} {base:Heap} {f:Addr} {fd:FuncData}
theorem ndCt:(["count"]:List Str).Nodup:=by decide +kernel
theorem dj:aW ["web", "order", "places", "rank", "at", "place", "onward", "one", "other", "first"] ["web", "order", "places"] (az sN):=⟨rfl,rfl,rfl,by decide +kernel,rfl,by decide +kernel,by decide +kernel⟩
theorem wB (F:Fun K "_law_peel_right" "_law_peel_right" sN f fd) (B:Blt mg) (me:mg "enumerate" = none):cB P w K mg base CX0 1 f fd ["web", "order", "places"] gg:=by
 refine F.ok dj (fun vs H Q E h => ?_) (fun cdv A outer s H vs Q E hr h => ?_)
 ·obtain ⟨_,_,_,_,_,_,rfl,_⟩:=fC.mp h
  rfl
 obtain ⟨b,o,e0,m,ts,ns,rfl,W,m4,hO,hE,l5,q⟩:=fC.mp h
 have hu:=hu1 hr
 obtain ⟨t,e1,e2⟩:=W.at'
 refine ⟨_,ah (bL (aO (xK hr) (aq il rfl B.b_sorted cZ (aa (aL jC (aI cR rfl B.b_list ET (aa (pv 1) ag)) (aI cR rfl B.b_list ET (aa (pv 2) ag))) ag)) (aI (kD hr.hd) rfl B.b_list ET (aa (aI js rfl B.b_range pI (aa (aN aM (pv 0) ai (fun _ _=>rfl)) ag)) ag)) (aR _)) (au (aS jh)) aV)
  (ah (aQ (i:=3) dj.nd rfl (Or.inl rfl) pC)
  (ah (bV Bw rfl (w4 rfl me (aa (pv 1) ag)) (bo rfl (aA (ak (i:=4) dj.nd rfl (Or.inl rfl)) (aA (ak (i:=5) dj.nd rfl (Or.inl rfl)) aT))) (au (nU hu (pv 3) (pv 5) (pv 4) rfl)))
  (ah (aQ (i:=6) dj.nd rfl (Or.inl rfl) (aL uP (cQ (aa ai ag)) (aq ba rfl B.b_len Ei (aa (pv 1) ag))))
  (ah (bV Bw rfl (nA (aN aM (pv 0) ai (fun _ _=>rfl))) (bo rfl (aA (ak (i:=7) dj.nd rfl (Or.inl rfl)) (aA (ak (i:=8) dj.nd rfl (Or.inl rfl)) aT)))
   (au (bL (PW.pt (qk (iK (vw hu (pv 7) (pv 3))) (nz (iK (vw hu (pv 8) (pv 3))))))
    (ah (aQ (i:=9) dj.nd rfl (Or.inl rfl) (aq (gn rfl) rfl B.b_min d9 (aa (nR hu (pv 3) (pv 7) (fun _ _=>rfl)) (aa (nR hu (pv 3) (pv 8) (fun _ _=>rfl)) ag))))
    (au (bC (aL cA (aL cA (aN cH (pv 6) (pv 9) (fun _ _=>rfl)) ai) (aI iO rfl B.b_int nW (aa (h7 dG (pv 7) (pv 8) (aR _)) ag))) (yN (pv 6) (pv 9) set_list)))) aV)))
  (au (aS (aq (j2 rfl) rfl B.b_all rd (aa (cw ["count"] [none] rfl (cj (pv 6)) rfl (fun _ _ _ _ _=>ak (i:=0) ndCt rfl (Or.inl rfl)) (fun _ _ _ _ _=>cC) (fun _ _ _ _ _=>h7 oD (pv 0) ai (aR _))) ag)))))))),?_⟩
 refine ⟨_,rfl,o,_,rfl,.inl (SqL.of hO),fun l1 hl1 => ?_⟩
 have k1:=ae hl1 (.lst (ns.map V.int))
 refine ⟨_,rfl,e0,_,rfl,.inr (SqT.of (k1 _ _ hE)),fun l2 hl2 => ?_⟩
 have k2:=ae hl2 (.lst [])
 refine ⟨l1,l2,ns.map V.int,[],rfl,rfl,SqL.of (k2 _ _ af),SqL.of af,(by rw [AM]; exact small (by show ns.length + 0<=1000; omega)),fun l3 hl3 => ?_⟩
 have k3:=ae hl3 (.lst (ns.map V.int ++ []))
 refine ⟨l3,ns,rfl,.inl (SqL.of (by rw [af,BM])),fun l out hl pm ps => ?_⟩
 have g0:=k1.trans (k2.trans k3)
 generalize upd (upd (upd H l1 (.lst (ns.map V.int))) l2 (.lst [])) l3 (.lst (ns.map V.int ++ []))=H0 at g0 hl
 have g1:=g0.trans (ae hl (.lst (out.map V.int)))
 refine ⟨_,rfl,b,_,0,_,rfl,rfl,SqT.of (g1 _ _ e1),rfl,_,rfl,fun a2 ha2=>⟨a2,m,rfl,af,by omega,fun l2 hl2 => ?_⟩⟩
 have er:((List.range m).map fun i=>V.int (i:Nat))=(rgI m).map V.int:=by unfold rgI; rw [CZ]; rfl
 rw [er] at *
 have g2:=ae ha2 (.rng 0 m)
 have g3:=ae hl2 (.lst ((rgI m).map V.int))
 have s3:=g1.trans (g2.trans g3)
 refine ⟨l,l2,out,rgI m,rfl,rfl,SqL.of (g3 _ _ (g2 _ _ af)),SqL.of af,_,rfl,ia (fun c => ?_) fun c => ?_⟩
 ·have ne:¬ out=rgI m:=by simpa using c
  have:=q _ s3
  rw [xY (fun G=>ne ((sF pm ps).mpr G.1))] at this
  exact this
 have eo:out=rgI m:=by simpa using c
 have pm:=(sF pm ps).mp eo
 have nd:ns.Nodup:=pm.nodup_iff.mpr (eZ m)
 have ln:ns.length=m:=by rw [pm.length_eq]; unfold rgI; rw [AM,Ci]
 generalize upd (upd (upd H0 l (.lst (out.map V.int))) a2 (.rng 0 m)) l2 (.lst ((rgI m).map V.int))=H3 at s3
 intro d hd
 have hd0:=s3.free hd
 have s5:=s3.trans (ae hd (.dK []))
 have ed5:upd H3 d (.dK []) d=some (.dK []):=af
 generalize upd H3 d (.dK [])=H5 at s5 ed5
 refine ⟨_,rfl,o,rfl,.inl ⟨⟨_,SqL.of (s5 _ _ hO)⟩,tm (xs:=ns.map V.int) (fun i σ H4=>(∃ c3 c4,σ=[some (.ref b),some (.ref o),some (.ref e0),some (.ref d),c3,c4,none,none,none,none])/\aB H H4/\∃ kvs,H4 d=some (.dK kvs)/\kvs.length<=i/\∀ j x,j < i->ns[j]? = some x->cy kvs (Sum.inl x)=some (.int j)) ⟨⟨_,_,rfl⟩,s5,[],ed5,Br _,fun j x hj=>by omega⟩ (fun i σ H4 _ z=>SqL.of (z.2.1 _ _ hO)) ?_ ?_⟩⟩
 ·rintro i x σ H4 T hx hT ⟨⟨c3,c4,rfl⟩,s4,kvs,ed4,lk,vk⟩
  rw [AX] at hx
  cases ho:ns[i]? with
  | none=>rw [ho] at hx; cases hx
  | some y =>
  rw [ho] at hx
  cases hx
  have hi:i < ns.length:=(AU.mp ho).1
  have g:=ae hT (.tup [.int i,.int y])
  have ed5:=g _ _ ed4
  refine ⟨T,_,rfl,SqT.of af,rfl,_,_,rfl,_,_,rfl,rfl,_,rfl,_,rfl,_,rfl,d,_,rfl,nP.k (k:=Sum.inl y) ed5 (CV lk (cf (by omega))),⟨_,_,rfl⟩,aB.bG (s4.trans g) hd0 _,_,af,?_,fun j z hj hz => ?_⟩
  ·have:=wz kvs (Sum.inl y) (.int i); omega
  ·rw [vo]
   by_cases e:j=i
   ·subst e
    rw [ho] at hz; cases hz
    rw [if_pos rfl]
   ·rw [if_neg (fun h=>e (qh nd hz (by rw [show z=y from Hf h]; exact ho))),vk j z (by omega) hz]
 rintro σ H2 ⟨⟨c4,c5,rfl⟩,s2,kvs,ed,lk,vk0⟩
 have vk:∀ a:Int,0<=a->a < m->cy kvs (Sum.inl a)=some (.int (cz ns a))/\cz ns a < m:=fun a a0 a1=>by
  have ha:a ∈ ns:=pm.mem_iff.mpr (dX.mpr ⟨a0,a1⟩)
  have e:=jI ha
  have hi:cz ns a < ns.length:=(AU.mp e).1
  exact ⟨vk0 _ a (by rw [AM]; exact hi) e,by omega⟩
 refine ⟨(by show 1<=sizeLine; decide),fun z hz=>⟨_,rfl,o,_,rfl,.inl (SqL.of ((ae hz _) _ _ (s2 _ _ hO))),z,((ns.map V.int).length:Int),[.int 0],rfl,rfl,af,by rw [AM]; omega,by rw [AM]; omega,?_,fun l hl => ?_⟩⟩
 ·rw [AM]
  show 1 * (ns.length:Int).toNat<=sizeLine
  exact small (by omega)
 have g:=(ae hz (.lst [.int 0])).trans (ae hl (.lst (List.replicate ((ns.map V.int).length:Int).toNat [V.int 0]).flatten))
 have hl2:H2 l=none:=(ae hz (.lst [.int 0])).free hl
 have el:upd (upd H2 z (.lst [.int 0])) l (.lst (List.replicate ((ns.map V.int).length:Int).toNat [V.int 0]).flatten) l=some (.lst ((hW ns m []).map V.int)):=by
  rw [af,BO,nX,AM,ln]
  unfold hW
  rw [CZ]
  congr 2
  symm
  rw [List.eq_replicate_iff]
  refine ⟨by rw [AM,Ci],fun x hx => ?_⟩
  obtain ⟨i,_,rfl⟩:=Bc.mp hx
  rfl
 have s3:=s2.trans g
 have ed3:=g _ _ ed
 have ndl:d ≠ l:=aD ed hl2
 have hl0:H l=none:=s2.free hl2
 generalize upd (upd H2 z (.lst [.int 0])) l (.lst (List.replicate ((ns.map V.int).length:Int).toNat [V.int 0]).flatten)=H3 at el s3 ed3
 have hmiA:∀ p ∈ ts.map (·.2),mi ns p < m:=fun p hp=>by
  obtain ⟨u,hu,rfl⟩:=Bc.mp hp
  obtain ⟨x,y,e3,x0,xy,ym⟩:=W.pr u hu
  obtain ⟨_,ix⟩:=vk x x0 (by omega)
  obtain ⟨_,iy⟩:=vk y (by omega) ym
  rw [e3]
  unfold mi
  show (if cz ns y < cz ns x then cz ns y else cz ns x) < m
  split <;> omega
 refine ⟨_,rfl,b,_,1,_,rfl,rfl,SqT.of (s3 _ _ e1),rfl,t,rfl,⟨_,SqT.of (s3 _ _ e2)⟩,rA (xs:=ts.map fun u => .ref u.1) (fun j σ H4=>(∃ c7 c8 c9,σ=[some (.ref b),some (.ref o),some (.ref e0),some (.ref d),c4,c5,some (.ref l),c7,c8,c9])/\aB H H4/\H4 d=some (.dK kvs)/\H4 l=some (.lst ((hW ns m ((ts.take j).map (·.2))).map V.int))) ⟨⟨_,_,_,rfl⟩,s3,ed3,el⟩ (fun j σ H4 _ z=>SqT.of (z.2.1 _ _ e2)) ?_ ?_⟩
 ·rintro j x σ H4 hx ⟨⟨c7,c8,c9,rfl⟩,s4,ed4,el4⟩
  obtain ⟨u,eu,rfl⟩:=item hx
  have mts:=AY eu
  obtain ⟨x,y,e3,x0,xy,ym⟩:=W.pr u mts
  have hu':H4 u.1=some (.tup [.int x,.int y]):=by
   have:=s4 _ _ (W.tup u mts)
   rw [e3] at this
   exact this
  have tk:(ts.take (j + 1)).map (·.2)=(ts.take j).map (·.2) ++ [[x,y]]:=by rw [take_snoc (f:=fun u:Addr × List Int=>u.2) eu,e3]
  obtain ⟨vx,ix⟩:=vk x x0 (by omega)
  obtain ⟨vy,iy⟩:=vk y (by omega) ym
  have hmi:mi ns [x,y] < m:=by rw [<- e3]; exact hmiA _ (BK mts)
  have emi:(if (cz ns y:Int) < (cz ns x:Int) then (cz ns y:Int) else (cz ns x:Int))=((mi ns [x,y]:Nat):Int):=by
   show _=(((if cz ns y < cz ns x then cz ns y else cz ns x):Nat):Int)
   by_cases h:cz ns y < cz ns x
   ·rw [if_pos h,if_pos (by omega)]
   ·rw [if_neg h,if_neg (by omega)]
  have gx:fE H4 d (.int x) (some (.int (cz ns x))):=by
   have:=fE.k (k:=Sum.inl x) ed4; rw [vx] at this; exact this
  have gy:fE H4 d (.int y) (some (.int (cz ns y))):=by
   have:=fE.k (k:=Sum.inl y) ed4; rw [vy] at this; exact this
  have at1:atI ((hW ns m ((ts.take j).map (·.2))).map V.int) ((mi ns [x,y]:Nat):Int)=some (.int ((cn2 ns ((ts.take j).map (·.2)) (mi ns [x,y]):Nat):Int)):=cG (by rw [AX,jL hmi]; rfl)
  refine ⟨u.1,_,rfl,SqT.of hu',rfl,_,_,rfl,_,_,rfl,rfl,_,rfl,_,rfl,d,_,rfl,gx,_,rfl,bX ⟨_,rfl,_,rfl,d,_,rfl,gy,_,rfl,bX ⟨_,rfl,_,rfl,d,.int (cz ns x),rfl,gx,_,rfl,_,rfl,d,.int (cz ns y),rfl,gy,_,_,rfl,?_⟩⟩⟩
  dsimp only
  rw [emi]
  have eL:(if decide (V.int x=V.int y)=true then (1:Int) else 0)=if lp [x,y]=true then 1 else 0:=by
   by_cases h:x=y
   ·rw [if_pos (by rw [h]; exact decide_eq_true rfl),if_pos (show lp [x,y]=true from decide_eq_true h)]
   ·rw [if_neg (by simpa using h),if_neg (by unfold lp; simpa using h)]
  refine ⟨_,rfl,_,rfl,l,_,_,_,rfl,rfl,SqL.of el4,at1,_,_,rfl,rfl,_,rfl,_,rfl,rfl,.inr ⟨_,rfl,_,_,rfl,rfl,_,rfl,_,rfl,l,_,_,_,rfl,rfl,el4,yd (by rw [AM,gf]; exact hmi),⟨_,_,_,rfl⟩,aB.bG s4 hl0 _,by rw [aE ndl]; exact ed4,?_⟩⟩
  rw [af,tk, <- uy hmi,Hd, <- eL]
 ·rintro σ H4 ⟨⟨c7,c8,c9,rfl⟩,s4,ed4,el4⟩
  rw [AM,A7 (AS _)] at el4
  refine ⟨_,rfl,l,rfl,⟨_,SqL.of el4⟩,cq (xs:=(hW ns m (ts.map (·.2))).map V.int) (fun i ys H'=>H'=H4/\ys=(((hW ns m (ts.map (·.2))).take i).map fun c=>decide (c < 2)).map V.bl) ⟨rfl,rfl⟩ (by rw [AM,gf]; exact small (by omega)) (fun i ys H'' _ z=>SqL.of (by rw [z.1]; exact el4)) ?_ ?_⟩
  ·rintro i x ys H' hx hy ⟨rfl,ey⟩ R1 R0 r1 r0
   rw [AX] at hx
   cases ho:(hW ns m (ts.map (·.2)))[i]? with
   | none=>rw [ho] at hx; cases hx
   | some c =>
   rw [ho] at hx
   cases hx
   refine bX ⟨_,rfl,_,_,rfl,rfl,r1 _ _ ⟨rfl,?_⟩⟩
   rw [ey,BU,ho,A4,A4]
   rfl
  ·rintro ys H5 hy ⟨rfl,ey⟩ l9 hl9
   rw [AM,A7 (AS _)] at ey
   refine ⟨l9,_,rfl,SqL.of (by rw [af,ey]),?_⟩
   rw [uz pm hmiA]
   exact q _ (s4.trans (ae hl9 _))
end
abbrev yA:Sp:=fun vs H Q _=>∃ (r:Addr) (m:Nat) (ts:List (Addr × List Int)),vs=[.ref r]/\Wb H r m ts/\m<=200/\(∀ (p l:Addr) (H':Hp) (G:List Int),aB H H'->H' p=some (.tup [.str "wood",.ref l])->H l=none->H' l=some (.lst (G.map V.int))->fF (ts.map (·.2))->Good G m (ts.map (·.2))->G.length=m->qe m (ts.map (·.2)) G->Q (.ref p) H')/\∀ (p z:Addr) (H':Hp) (F:List Int),aB H H'->H' p=some (.tup [.str "ring",.ref z])->H' z=some (.tup (F.map V.int))->¬ fF (ts.map (·.2))->Ring m (ts.map (·.2)) F->xX F->ja m (ts.map (·.2)) (ts.map (·.2)) F->Q (.ref p) H'
@[irreducible] def wC:Sp:=yA
theorem gh {vs:List V} {H:Hp} {Q:VK} {E:XK}:wC vs H Q E ↔ yA vs H Q E:=by
 delta wC
 exact CS
section
variable {P:Program} {w:World} {K:PySem.W.Frag} {mg:Str->Option Value} {base:Heap} {f T:Addr} {fd:FuncData}
theorem jv:aW ["web", "order"] ["web"] (az cY):=⟨rfl,rfl,rfl,by decide +kernel,rfl,by decide +kernel,by decide +kernel⟩
theorem qi (F:Fun K "peeled_web" "peeled_web" cY f fd) (B:Blt mg) (cPeeledPlaces:Cal P w K mg base 2 "peeled_places" ["web"] kY) (cLeastRing:Cal P w K mg base 5 "least_ring" ["web"] iF):cB P w K mg base CX0 6 f fd ["web"] wC:=by
 refine F.ok jv (fun vs H Q E h => ?_) (fun cdv A outer s H vs Q E hr h => ?_)
 ·obtain ⟨_,_,_,rfl,_⟩:=gh.mp h
  rfl
 obtain ⟨r,m,ts,rfl,W,m2,q0,q1⟩:=gh.mp h
 refine ⟨_,(@ah _ _ _ _ _ (@aQ _ _ 1 _ _ _ _ jv.nd rfl (Or.inl rfl) (bz cPeeledPlaces hr (by decide) rfl (@aa _ _ _ _ _ (pv 0) ag rfl)) rfl (by first | exact .inl rfl | exact .inr rfl | assumption))
  (@ah _ _ _ _ _ (@bL _ _ _ _ _ _ _ _ (aO dG (aq ba rfl B.b_len fy (@aa _ _ _ _ _ (pv 1) ag rfl)) (@aN _ _ _ _ _ _ _ aM (pv 0) ai (fun _ _=>rfl)) (aR _)) (@au _ _ _ (@aS _ _ _ _ (@bD _ _ _ _ _ (@aa _ _ _ _ _ jN (@aa _ _ _ _ _ (pv 1) ag rfl) rfl)))) aV)
  (@au _ _ _ (@aS _ _ _ _ (@bD _ _ _ _ _ (@aa _ _ _ _ _ jN (@aa _ _ _ _ _ (bz cLeastRing hr (by decide) rfl (@aa _ _ _ _ _ (pv 0) ag rfl)) ag rfl) rfl)))))),?_⟩
 obtain ⟨t,e1,e2⟩:=W.at'
 have O:=mW W
 refine ⟨_,rfl,hJ.mpr ⟨r,m,ts,rfl,W,m2,fun l H1 G s1 hl el pd rg hc pe => ?_⟩⟩
 have lm:(G.map V.int).length=G.length:=AM _
 have gm:=cU pd.1 rg
 refine ⟨_,rfl,l,_,rfl,.inl (SqL.of el),_,rfl,r,_,0,_,rfl,rfl,SqT.of (s1 _ _ e1),rfl,rfl,_,rfl,?_⟩
 rw [lm]
 by_cases h:G.length=m
 ·rw [decide_eq_true (by rw [h])]
  have gd:=pd.good O rg h
  refine bX ⟨_,rfl,(by show 2<=sizeLine; decide),fun p hp=>q0 p l _ G (s1.trans (ae hp _)) af hl ((ae hp _) _ _ el) (pd.AK O fun v hv=>gd.1.mem_iff.mpr (dX.mpr hv)) gd h pe⟩
 ·rw [decide_eq_false (by intro z; injection z with z; omega)]
  have nw:¬ fF (ts.map (·.2)):=fun w=>by
   apply DI
   intro _
   have all:∀ u:Int,0<=u/\u < m->u ∈ G:=fun u hu=>DI fun nu=>stuck O w hu nu hc
   have:=B1 (eZ m) (l₂:=G) fun v hv=>all v (dX.mp hv)
   rw [jK] at this
   omega
  refine cI ⟨_,rfl,fY.mpr ⟨r,m,ts,rfl,W.same s1,by omega,fun H2 s2 no => ?_,fun z H2 Z M s2 ez hM mM hx hn ld => ?_⟩⟩
  ·obtain ⟨a,b,hab,na⟩:=xZ O nw
   exact absurd (no a b hab) na
  ·obtain ⟨x,y,hxy,al⟩:=hx
   have rgz:=al.ring O hxy
   exact ⟨(by show 2<=sizeLine; decide),fun p hp=>q1 p z _ _ (s1.trans (s2.trans (ae hp _))) af ((ae hp _) _ _ ez) nw (rgz.frm hM) (we rgz.nd hM mM) ld⟩
end
open PySem L2
def qj (K:PySem.W.Frag):Sp:=fun vs H Q _=>∃ (a:Addr) (ns:List Int),vs=[.ref a]/\SqL K H a (ns.map V.int)/\ns.length<=63/\∀ H',Q (.bl true) H'
theorem nj {K:PySem.W.Frag} {vs:List V} {H:Hp} {Q:VK} {E:XK}:qj K vs H Q E ↔ ∃ (a:Addr) (ns:List Int),vs=[.ref a]/\SqL K H a (ns.map V.int)/\ns.length<=63/\∀ H',Q (.bl true) H':=CS
theorem lj {K:PySem.W.Frag} {H:Hp} {n:Nat}:∀ ns:List Int,Paired (EqS K H (n + 1)) (ns.map V.int) (ns.map V.int)
 | [] => .nil
 | a :: t => .cons (.inl ⟨a,rfl,rfl⟩) (lj t)
open Classical in
theorem ye {ns:List Int} {m:Nat} {ps:List (List Int)} (h:Good ns m ps):kX ns m ps=true:=by unfold kX; exact decide_eq_true h
section
variable {P:Program} {w:World} {K:PySem.W.Frag} {mg:Str->Option Value} {base:Heap} {f T:Addr} {fd:FuncData}
theorem fc:aW ["script", "cell", "number", "way", "web", "told", "kept"] ["script"] (az iZ):=⟨rfl,rfl,rfl,by decide +kernel,rfl,by decide +kernel,by decide +kernel⟩
theorem AL (F:Fun K "law" "law" iZ f fd) (B:Blt mg) (cLDeal:Cal P w K mg base 1 "_law_deal" ["cell", "salt"] kM) (cPeeledWeb:Cal P w K mg base 6 "peeled_web" ["web"] wC) (cLIsWood:Cal P w K mg base 1 "_law_is_wood" ["web"] lh) (cLCell:Cal P w K mg base 1 "_law_cell" ["script", "k"] (kK K)) (cLWide:Cal P w K mg base 1 "_law_wide" ["number"] fT) (cLWeb:Cal P w K mg base 1 "_law_web" ["number", "most"] kN) (cLDense:Cal P w K mg base 1 "_law_dense" ["number"] fT) (cLWholes:Cal P w K mg base 1 "_law_wholes" ["found"] gc) (cLPeelRight:Cal P w K mg base 1 "_law_peel_right" ["web", "order", "places"] gg) (cLForm:Cal P w K mg base 1 "_law_form" ["ring"] iI) (cLIsRing:Cal P w K mg base 2 "_law_is_ring" ["web", "ring"] qf):cB P w K mg base CX0 7 f fd ["script"] (qj K):=by
 refine F.ok fc (fun vs H Q E h => ?_) (fun cdv A outer s H vs Q E hr h => ?_)
 ·obtain ⟨_,_,rfl,_⟩:=nj.mp h
  rfl
 obtain ⟨a,nn,rfl,hS,h63,q⟩:=nj.mp h
 have TA:∃ t,PSs (ly CX0 P w K mg base ["script", "cell", "number", "way", "web", "told", "kept"] "law" (az iZ) f cdv A outer s H E).nox ((r9 ((aH iZ).getD 0 (.Pass ⟨0,0,0,0⟩))).drop 4) t/\∀ (D:Ends) (b:Addr) (m:Nat) (ts:List (Addr × List Int)) (H':Hp) (c1 c2 c3 c5 c6:Option V),Wb H' b m ts->m<=40->(∀ σ' H'',(∃ c1 c2 c3 c4 c5 c6,σ'=[some (.ref a),c1,c2,c3,c4,c5,c6])->aB H' H''->D.nx σ' H'')->t D [some (.ref a),c1,c2,c3,some (.ref b),c5,c6] H':=by
  refine ⟨_,(@ah _ _ _ _ _ (@aQ _ _ 5 _ _ _ _ fc.nd rfl (Or.inl rfl) (bz cPeeledWeb hr (by decide) rfl (@aa _ _ _ _ _ (pv 4) ag rfl)) rfl (by first | exact .inl rfl | exact .inr rfl | assumption))
   (@ah _ _ _ _ _ (@bL _ _ _ _ _ _ _ _ (PW.pt (gL (gP (fG (aq dS rfl B.b_isinstance cF (@aa _ _ _ _ _ (pv 5) (@aa _ _ _ _ _ (hZ (v := .ty "tuple") rfl B.b_tuple dP rfl) ag rfl) rfl)))) (gL (aO jR (aq ba rfl B.b_len fy (@aa _ _ _ _ _ (pv 5) ag rfl)) ai (aR _)) (iL (gP (fG (bz cLWholes hr (by decide) rfl (@aa _ _ _ _ _ (@aN _ _ _ _ _ _ _ aM (pv 5) ai (fun _ _=>rfl)) ag rfl)))))))) eD aV)
   (@au _ _ _ (@bL _ _ _ _ _ _ _ _ (fG (bz cLIsWood hr (by decide) rfl (@aa _ _ _ _ _ (pv 4) ag rfl))) (@ah _ _ _ _ _ (@bL _ _ _ _ _ _ _ _ (PW.pt (gL (aO jR (@aN _ _ _ _ _ _ _ aM (pv 5) ai (fun _ _=>rfl)) jN (aR _)) (gL (gP (fG (aq dS rfl B.b_isinstance cF (@aa _ _ _ _ _ (@aN _ _ _ _ _ _ _ aM (pv 5) ai (fun _ _=>rfl)) (@aa _ _ _ _ _ (hZ (v := .ty "list") rfl B.b_list gC rfl) ag rfl) rfl)))) (iL (gP (fG (bz cLPeelRight hr (by decide) rfl (@aa _ _ _ _ _ (pv 4) (@aa _ _ _ _ _ (@aN _ _ _ _ _ _ _ aM (pv 5) ai (fun _ _=>rfl)) (@aa _ _ _ _ _ (@bD _ _ _ _ _ ag) ag rfl) rfl) rfl)))))))) eD aV)
    (@ah _ _ _ _ _ (@aQ _ _ 6 _ _ _ _ fc.nd rfl (Or.inl rfl) (aI cR rfl B.b_list gC (@aa _ _ _ _ _ (@aN _ _ _ _ _ _ _ aM (pv 5) ai (fun _ _=>rfl)) ag rfl)) rfl (by first | exact .inl rfl | exact .inr rfl | assumption))
    (@ah _ _ _ _ _ (bR (dy Bm BG BH bT (@aN _ _ _ _ _ _ _ aM (pv 5) ai (fun _ _=>rfl)) (@aa _ _ _ _ _ ai ag rfl)))
    (@au _ _ _ (@bL _ _ _ _ _ _ _ _ (aO (se hr) (bz cPeeledWeb hr (by decide) rfl (@aa _ _ _ _ _ (pv 4) ag rfl)) (@bD _ _ _ _ _ (@aa _ _ _ _ _ jN (@aa _ _ _ _ _ (pv 6) ag rfl) rfl)) (aR _)) eD aV))))) (@au _ _ _ (@bL _ _ _ _ _ _ _ _ (PW.pt (gL (aO jR (@aN _ _ _ _ _ _ _ aM (pv 5) ai (fun _ _=>rfl)) jN (aR _)) (gL (gP (fG (aq dS rfl B.b_isinstance cF (@aa _ _ _ _ _ (@aN _ _ _ _ _ _ _ aM (pv 5) ai (fun _ _=>rfl)) (@aa _ _ _ _ _ (hZ (v := .ty "tuple") rfl B.b_tuple dP rfl) ag rfl) rfl)))) (iL (aO (xM hr) (@aN _ _ _ _ _ _ _ aM (pv 5) ai (fun _ _=>rfl)) (bz cLForm hr (by decide) rfl (@aa _ _ _ _ _ (@aN _ _ _ _ _ _ _ aM (pv 5) ai (fun _ _=>rfl)) ag rfl)) (aR _)))))) eD (@au _ _ _ (@bL _ _ _ _ _ _ _ _ (PW.pt (gL (gP (fG (bz cLIsRing hr (by decide) rfl (@aa _ _ _ _ _ (pv 4) (@aa _ _ _ _ _ (@aN _ _ _ _ _ _ _ aM (pv 5) ai (fun _ _=>rfl)) ag rfl) rfl)))) (iL (aO (se hr) (bz cPeeledWeb hr (by decide) rfl (@aa _ _ _ _ _ (pv 4) ag rfl)) (pv 5) (aR _))))) eD aV)))))))),?_⟩
  intro D b m ts H' c1 c2 c3 c5 c6 W m40 nx
  have O:=mW W
  refine ⟨_,rfl,gh.mpr ⟨b,m,ts,rfl,W,by omega,fun p l H1 G s1 ep hl el wd gd lG pe => ?_,fun p z H1 F s1 ep ez nw rgf cn ld => ?_⟩⟩
  ·refine ⟨_,rfl,.ref p, "tuple",_,true,rfl,.tup ep,rfl,_,rfl,cI ?_⟩
   refine ⟨_,rfl,p,_,rfl,.inr (SqT.of ep),rfl,_,rfl,jX rfl ?_⟩
   refine ⟨_,rfl,p,_,1,_,rfl,rfl,SqT.of ep,rfl,dD.mpr ⟨l,G,rfl,.inl el,by omega,fun H2 s2=>⟨_,rfl,cI ?_⟩⟩⟩
   refine ⟨_,rfl,fB.mpr ⟨b,m,ts,rfl,(W.same s1).same s2,by omega,fun H3 bb s3 hb => ?_⟩⟩
   rw [hb.mpr wd]
   have s13:=s2.trans s3
   have ep3:=s13 _ _ ep
   have el3:=s13 _ _ el
   refine ⟨_,rfl,bX ?_⟩
   refine ⟨_,rfl,p,_,0,_,rfl,rfl,SqT.of ep3,rfl,rfl,_,rfl,jX rfl ?_⟩
   refine ⟨_,rfl,p,_,1,_,rfl,rfl,SqT.of ep3,rfl,.ref l, "list",_,true,rfl,.lst el3,rfl,_,rfl,cI ?_⟩
   refine ⟨_,rfl,_,rfl,p,_,1,_,rfl,rfl,SqT.of ep3,rfl,(by show 0<=sizeLine; decide),fun e he => ?_⟩
   have g4:=ae he (.tup [])
   refine fC.mpr ⟨b,l,e,m,ts,G,rfl,((W.same s1).same s13).same g4,by omega,g4 _ _ el3,af,by omega,fun H5 s5 => ?_⟩
   rw [ye gd]
   have s35:=g4.trans s5
   have ep5:=s35 _ _ ep3
   have el5:=s35 _ _ el3
   have s05:=s1.trans (s13.trans s35)
   refine ⟨_,rfl,cI ⟨_,rfl,p,_,1,_,rfl,rfl,SqT.of ep5,rfl,l,_,rfl,.inl (SqL.of el5),fun kp hkp => ?_⟩⟩
   have g6:=ae hkp (.lst (G.map V.int))
   have ekp:upd H5 kp (.lst (G.map V.int)) kp=some (.lst (G.map V.int)):=af
   have nkl:kp ≠ l:=BN (aD el5 hkp)
   have ep6:=g6 _ _ ep5
   have el6:=g6 _ _ el5
   have s06:=s05.trans g6
   generalize upd H5 kp (.lst (G.map V.int))=H6 at g6 ekp ep6 el6 s06
   refine ⟨_,rfl,p,_,1,_,rfl,rfl,SqT.of ep6,rfl,.inl ⟨rfl,_,SqL.of el6⟩,l,_,_,rfl,rfl,el6,by rw [AM]; exact i7 (by omega),?_⟩
   have s07:=aB.bG s06 hl (.lst (G.map V.int ++ [.int 0]))
   have ekp7:upd H6 l (.lst (G.map V.int ++ [.int 0])) kp=some (.lst (G.map V.int)):=by rw [aE nkl]; exact ekp
   generalize upd H6 l (.lst (G.map V.int ++ [.int 0]))=H7 at s07 ekp7
   refine ⟨_,rfl,gh.mpr ⟨b,m,ts,rfl,W.same s07,by omega,fun p2 l2 H8 G8 s8 ep8 hl8 el8 wd8 gd8 lG8 pe8 => ?_,fun p2 z2 H8 F2 s8 ep8 ez8 nw8 _ _ _=>absurd wd nw8⟩⟩
   rw [pe8.uniq pe] at el8
   refine ⟨_,rfl,(by show 2<=sizeLine; decide),fun tp htp => ?_⟩
   have g9:=ae htp (.tup [.str "wood",.ref kp])
   refine ⟨p2,tp,_,_,rfl,rfl,SqT.of (g9 _ _ ep8),SqT.of af,.cons (.inr (.inl ⟨_,rfl,rfl⟩)) (.cons (.inr (.inr (.inr ⟨l2,kp,_,_,rfl,rfl,.inr ⟨SqL.of (g9 _ _ el8),SqL.of (g9 _ _ (s8 _ _ ekp7))⟩,lj G⟩))) .nil),_,rfl,cI (nx _ _ ⟨_,_,_,_,_,_,rfl⟩ (s07.trans (s8.trans g9)))⟩
  ·have lF:=cU rgf.nd rgf.rng
   refine ⟨_,rfl,.ref p, "tuple",_,true,rfl,.tup ep,rfl,_,rfl,cI ?_⟩
   refine ⟨_,rfl,p,_,rfl,.inr (SqT.of ep),rfl,_,rfl,jX rfl ?_⟩
   refine ⟨_,rfl,p,_,1,_,rfl,rfl,SqT.of ep,rfl,dD.mpr ⟨z,F,rfl,.inr ez,by omega,fun H2 s2=>⟨_,rfl,cI ?_⟩⟩⟩
   refine ⟨_,rfl,fB.mpr ⟨b,m,ts,rfl,(W.same s1).same s2,by omega,fun H3 bb s3 hb => ?_⟩⟩
   have ebb:bb=false:=by
    cases bb with
    | false=>rfl
    | true=>exact absurd (hb.mp rfl) nw
   rw [ebb]
   have s13:=s2.trans s3
   have ep3:=s13 _ _ ep
   have ez3:=s13 _ _ ez
   have W3:=(W.same s1).same s13
   refine ⟨_,rfl,cI ?_⟩
   refine ⟨_,rfl,p,_,0,_,rfl,rfl,SqT.of ep3,rfl,rfl,_,rfl,jX rfl ?_⟩
   refine ⟨_,rfl,p,_,1,_,rfl,rfl,SqT.of ep3,rfl,.ref z, "tuple",_,true,rfl,.tup ez3,rfl,_,rfl,cI ?_⟩
   refine ⟨_,rfl,p,_,1,_,rfl,rfl,SqT.of ep3,rfl,_,rfl,p,_,1,_,rfl,rfl,SqT.of ep3,rfl,fZ.mpr ⟨z,F,rfl,ez3,cn,by omega,fun z2 H4 s4 ez4=>⟨z,z2,F,F,rfl,rfl,SqT.of (s4 _ _ ez3),SqT.of ez4,_,rfl,jX rfl ?_⟩⟩⟩
   have ep4:=s4 _ _ ep3
   have ez4':=s4 _ _ ez3
   refine ⟨_,rfl,_,rfl,p,_,1,_,rfl,rfl,SqT.of ep4,rfl,jg.mpr ⟨b,z,m,ts,F,rfl,W3.same s4,by omega,ez4',rgf,fun H5 s5=>⟨_,rfl,cI ?_⟩⟩⟩
   have s15:=s13.trans (s4.trans s5)
   refine ⟨_,rfl,gh.mpr ⟨b,m,ts,rfl,(W3.same s4).same s5,by omega,fun p2 l2 H8 G8 s8 ep8 hl8 el8 wd8 _ _ _=>absurd wd8 nw,fun p2 z2 H8 F2 s8 ep8 ez8 nw8 _ _ ld8 => ?_⟩⟩
   have eF:F2=F:=ld8.uniq (fun t ht=>by obtain ⟨x,y,e,_⟩:=O t ht; exact ⟨x,y,e⟩) ld
   rw [eF] at ez8
   refine ⟨_,rfl,p2,p,_,_,rfl,rfl,SqT.of ep8,SqT.of (s8 _ _ (s15 _ _ ep)),.cons (.inr (.inl ⟨_,rfl,rfl⟩)) (.cons (.inr (.inr (.inr ⟨z2,z,_,_,rfl,rfl,.inl ⟨SqT.of ez8,SqT.of (s8 _ _ (s15 _ _ ez))⟩,lj F⟩))) .nil),_,rfl,cI (nx _ _ ⟨_,_,_,_,_,_,rfl⟩ (s1.trans (s15.trans s8)))⟩
 obtain ⟨tA,pA,gA⟩:=TA
 have TB:∃ t,PSs (ly CX0 P w K mg base ["script", "cell", "number", "way", "web", "told", "kept"] "law" (az iZ) f cdv A outer s H E).nox ((r9 ((aH iZ).getD 0 (.Pass ⟨0,0,0,0⟩))).drop 3) t/\∀ (D:Ends) (b:Addr) (m:Nat) (ts:List (Addr × List Int)) (n:Int) (H':Hp) (c1 c3 c5 c6:Option V),Wb H' b m ts->m<=40->0<=n->(∀ σ' H'',(∃ c1 c2 c3 c4 c5 c6,σ'=[some (.ref a),c1,c2,c3,c4,c5,c6])->aB H' H''->D.nx σ' H'')->t D [some (.ref a),c1,some (.int n),c3,some (.ref b),c5,c6] H':=by
  refine ⟨_,(@ah _ _ _ _ _ (@bL _ _ _ _ _ _ _ _ (aO dG (@aL _ _ _ _ _ _ _ _ ff (pv 2) ai) ai (aR _)) (@au _ _ _ (@bC _ _ _ _ _ _ (bz cLDense hr (by decide) rfl (@aa _ _ _ _ _ (@aL _ _ _ _ _ _ _ _ rB (pv 2) ai) ag rfl)) (bo rfl (aA (ak (i:=4) fc.nd rfl (Or.inl rfl)) (aA (ak (i:=2) fc.nd rfl (Or.inl rfl)) aT))) rfl rfl rfl)) aV)
   pA),?_⟩
  intro D b m ts n H' c1 c3 c5 c6 W m40 n0 nx
  refine ⟨_,rfl,_,_,rfl,rfl,(by show (0:Int) < 12; decide),rfl,_,rfl,ia (fun z => ?_) fun z => ?_⟩
  ·refine ⟨_,rfl,_,_,rfl,rfl,⟨by decide,by decide⟩,da.mpr ⟨n / 12,rfl,FC n0 (by decide),fun p b' n' mI ts' H6 s6 ep W6 mI0 mI40 n'0 => ?_⟩⟩
   obtain ⟨m',rfl⟩:∃ m:Nat,mI=m:=⟨mI.toNat,by omega⟩
   exact ⟨p,_,rfl,SqT.of ep,rfl,_,_,rfl,_,_,rfl,rfl,gA _ b' m' ts' H6 _ _ _ _ _ W6 (by omega) fun σ' H7 hσ s7=>nx σ' H7 hσ (s6.trans s7)⟩
  ·exact gA _ b m ts H' _ _ _ _ _ W m40 nx
 obtain ⟨tB,pB,gB⟩:=TB
 refine ⟨_,(@ah _ _ _ _ _ (@bV _ _ _ _ _ _ _ _ Bw rfl (@cj _ _ _ _ (@aL _ _ _ _ _ _ _ _ jC (@cQ _ _ _ _ (@aa _ _ _ _ _ (bz cLCell hr (by decide) rfl (@aa _ _ _ _ _ (pv 0) (@aa _ _ _ _ _ ai ag rfl) rfl)) ag rfl)) (dg rK (pv 0) (dz ai) (dz ai)))) (ak (i:=1) fc.nd rfl (Or.inl rfl))
   (@ah _ _ _ _ _ (@aQ _ _ 2 _ _ _ _ fc.nd rfl (Or.inl rfl) (bz cLDeal hr (by decide) rfl (@aa _ _ _ _ _ (pv 1) (@aa _ _ _ _ _ ai ag rfl) rfl)) rfl (by first | exact .inl rfl | exact .inr rfl | assumption))
   (@ah _ _ _ _ _ (@bC _ _ _ _ _ _ (aq aF rfl B.b_divmod aP (@aa _ _ _ _ _ (pv 2) (@aa _ _ _ _ _ ai ag rfl) rfl)) (bo rfl (aA (ak (i:=2) fc.nd rfl (Or.inl rfl)) (aA (ak (i:=3) fc.nd rfl (Or.inl rfl)) aT))) rfl rfl rfl)
   (@ah _ _ _ _ _ (@bL _ _ _ _ _ _ _ _ (aO dG (pv 3) ai (aR _)) (@au _ _ _ (@bC _ _ _ _ _ _ (bz cLWide hr (by decide) rfl (@aa _ _ _ _ _ (pv 2) ag rfl)) (bo rfl (aA (ak (i:=4) fc.nd rfl (Or.inl rfl)) (aA (ak (i:=2) fc.nd rfl (Or.inl rfl)) aT))) rfl rfl rfl)) (@au _ _ _ (@bC _ _ _ _ _ _ (bz cLWeb hr (by decide) rfl (@aa _ _ _ _ _ (pv 2) (@aa _ _ _ _ _ ai ag rfl) rfl)) (bo rfl (aA (ak (i:=4) fc.nd rfl (Or.inl rfl)) (aA (ak (i:=2) fc.nd rfl (Or.inl rfl)) aT))) rfl rfl rfl)))
   pB))) (fun _=>rfl))
  (@au _ _ _ (@aS _ _ _ _ jh))),?_⟩
 refine ⟨_,rfl,gR.mpr ⟨a,nn,0,rfl,hS,by decide,fun c0=>⟨(by show 1<=sizeLine; decide),fun l0 hl0 => ?_⟩⟩⟩
 have g2:=ae hl0 (.lst [.int c0])
 have el0:upd H l0 (.lst [.int c0]) l0=some (.lst [.int c0]):=af
 generalize upd H l0 (.lst [.int c0])=H2 at g2 el0
 refine ⟨_,rfl,1,rfl,17,rfl,a,_,rfl,g2.seq hS,fun l2 hl2 => ?_⟩
 obtain ⟨cs,ecs,lcs⟩:∃ cs:List Int,fD (nn.map V.int) (some 1) (some 17)=cs.map V.int/\cs.length<=63:=by
  unfold fD
  refine ⟨(nn.drop _).take _,(by rw [EA,DC]),?_⟩
  rw [BL,BS]; omega
 rw [ecs]
 have g4:=ae hl2 (.lst (cs.map V.int))
 have el2:upd H2 l2 (.lst (cs.map V.int)) l2=some (.lst (cs.map V.int)):=af
 generalize upd H2 l2 (.lst (cs.map V.int))=H4 at g4 el2
 refine ⟨l0,l2,_,_,rfl,rfl,SqL.of (g4 _ _ el0),SqL.of el2,by rw [AM]; exact small (by show 1 + _<=_; omega),fun S hS => ?_⟩
 rw [show ([V.int c0] ++ cs.map V.int:List V)=(c0 :: cs).map V.int from rfl]
 have eS:upd H4 S (.lst ((c0 :: cs).map V.int)) S=some (.lst ((c0 :: cs).map V.int)):=af
 generalize upd H4 S (.lst ((c0 :: cs).map V.int))=H5 at eS
 refine ⟨S,rfl,⟨_,SqL.of eS⟩,fJ (xs:=(c0 :: cs).map V.int) (fun i σ H'=>(∃ c1 c2 c3 c4 c5 c6,σ=[some (.ref a),c1,c2,c3,c4,c5,c6])/\aB H5 H') ⟨⟨_,_,_,_,_,_,rfl⟩,aB.refl _⟩ (fun i σ H' _ z=>SqL.of (z.2 _ _ eS)) ?_ (fun σ H' _=>q _)⟩
 rintro i x σ H6 hx ⟨⟨c1,c2,c3,c4,c5,c6,rfl⟩,s6⟩
 obtain ⟨cell,ec,rfl⟩:=jt hx
 refine ⟨_,rfl,gS.mpr ⟨cell,1,rfl,by decide,by decide,fun n n0 => ?_⟩⟩
 obtain ⟨q1,x1,y1⟩:=dmN (j:=4) n0 (by decide)
 refine ⟨_,rfl,n,4,rfl,⟨by decide,by decide⟩,fun p hp=>⟨p,_,rfl,SqT.of af,rfl,_,_,rfl,_,_,rfl,rfl,?_⟩⟩
 have s7:=s6.trans (ae hp (.tup [.int (n / 4),.int (n % 4)]))
 generalize upd H6 p (.tup [.int (n / 4),.int (n % 4)])=H7 at s7
 generalize n / 4=n1 at q1
 generalize n % 4=v1 at x1 y1
 refine ⟨_,rfl,rfl,_,rfl,ia (fun z => ?_) fun z => ?_⟩
 ·refine ⟨_,rfl,da.mpr ⟨n1,rfl,q1,fun p b n' mI ts H8 s8 ep W mI0 m40 n'0 => ?_⟩⟩
  obtain ⟨m,rfl⟩:∃ m:Nat,mI=m:=⟨mI.toNat,by omega⟩
  exact ⟨p,_,rfl,SqT.of ep,rfl,_,_,rfl,_,_,rfl,rfl,gB _ b m ts n' H8 _ _ _ _ W (by omega) n'0 fun σ' H9 hσ s9=>⟨hσ,s7.trans (s8.trans s9)⟩⟩
 ·refine ⟨_,rfl,gX.mpr ⟨n1,8,rfl,q1,by decide,by decide,fun p b n' mI ts H8 s8 ep W mI0 m40 n'0 => ?_⟩⟩
  obtain ⟨m,rfl⟩:∃ m:Nat,mI=m:=⟨mI.toNat,by omega⟩
  exact ⟨p,_,rfl,SqT.of ep,rfl,_,_,rfl,_,_,rfl,rfl,gB _ b m ts n' H8 _ _ _ _ W (by omega) n'0 fun σ' H9 hσ s9=>⟨hσ,s7.trans (s8.trans s9)⟩⟩
end
open PySem L2
theorem all_mk {l:PySem.W.OpenLaw} {w:World} {K:PySem.W.Frag} {h:Heap} {mg:Str->Option Value} {fa:Addr} (X:K.In h) (G:h.Ns mainGlobals mg) (hfa:mg "law" = some (.ref fa))
  {f1:Addr} {od1 an1:Option Addr} {sl1:Array (Option Value)} {oc1 kV1 dc1 pm1 cd1 ct1:Value} {f2:Addr} {od2 an2:Option Addr} {sl2:Array (Option Value)} {oc2 kV2 dc2 pm2 cd2 ct2:Value} {f3:Addr} {od3 an3:Option Addr} {sl3:Array (Option Value)} {oc3 kV3 dc3 pm3 cd3 ct3:Value} {f4:Addr} {od4 an4:Option Addr} {sl4:Array (Option Value)} {oc4 kV4 dc4 pm4 cd4 ct4:Value} {f5:Addr} {od5 an5:Option Addr} {sl5:Array (Option Value)} {oc5 kV5 dc5 pm5 cd5 ct5:Value} {f6:Addr} {od6 an6:Option Addr} {sl6:Array (Option Value)} {oc6 kV6 dc6 pm6 cd6 ct6:Value} {f7:Addr} {od7 an7:Option Addr} {sl7:Array (Option Value)} {oc7 kV7 dc7 pm7 cd7 ct7:Value} {f8:Addr} {od8 an8:Option Addr} {sl8:Array (Option Value)} {oc8 kV8 dc8 pm8 cd8 ct8:Value} {f9:Addr} {od9 an9:Option Addr} {sl9:Array (Option Value)} {oc9 kV9 dc9 pm9 cd9 ct9:Value} {f10:Addr} {od10 an10:Option Addr} {sl10:Array (Option Value)} {oc10 kV10 dc10 pm10 cd10 ct10:Value} {f11:Addr} {od11 an11:Option Addr} {sl11:Array (Option Value)} {oc11 kV11 dc11 pm11 cd11 ct11:Value} {f12:Addr} {od12 an12:Option Addr} {sl12:Array (Option Value)} {oc12 kV12 dc12 pm12 cd12 ct12:Value} {f13:Addr} {od13 an13:Option Addr} {sl13:Array (Option Value)} {oc13 kV13 dc13 pm13 cd13 ct13:Value} {f14:Addr} {od14 an14:Option Addr} {sl14:Array (Option Value)} {oc14 kV14 dc14 pm14 cd14 ct14:Value} {f15:Addr} {od15 an15:Option Addr} {sl15:Array (Option Value)} {oc15 kV15 dc15 pm15 cd15 ct15:Value} {f16:Addr} {od16 an16:Option Addr} {sl16:Array (Option Value)} {oc16 kV16 dc16 pm16 cd16 ct16:Value} {f17:Addr} {od17 an17:Option Addr} {sl17:Array (Option Value)} {oc17 kV17 dc17 pm17 cd17 ct17:Value} {f18:Addr} {od18 an18:Option Addr} {sl18:Array (Option Value)} {oc18 kV18 dc18 pm18 cd18 ct18:Value} {f19:Addr} {od19 an19:Option Addr} {sl19:Array (Option Value)} {oc19 kV19 dc19 pm19 cd19 ct19:Value} {f20:Addr} {od20 an20:Option Addr} {sl20:Array (Option Value)} {oc20 kV20 dc20 pm20 cd20 ct20:Value} {f21:Addr} {od21 an21:Option Addr} {sl21:Array (Option Value)} {oc21 kV21 dc21 pm21 cd21 ct21:Value} {f22:Addr} {od22 an22:Option Addr} {sl22:Array (Option Value)} {oc22 kV22 dc22 pm22 cd22 ct22:Value} {f23:Addr} {od23 an23:Option Addr} {sl23:Array (Option Value)} {oc23 kV23 dc23 pm23 cd23 ct23:Value} {f24:Addr} {od24 an24:Option Addr} {sl24:Array (Option Value)} {oc24 kV24 dc24 pm24 cd24 ct24:Value}
  (a1:PySem.W.nsIn K mainGlobals "tie_of" = some (some (.ref f1))) (l1:K.lookup f1=some ⟨oc1,od1,.func (PySem.W.fnOf "tie_of" "tie_of" (aU kE) (aH kE) (az kE) .none kV1 dc1 pm1 an1 cd1 ct1),sl1⟩) (c1:PySem.W.codeIn K cd1 "tie_of" = true) (k1:PySem.W.keepIn K (.ref f1)=true)
  (a2:PySem.W.nsIn K mainGlobals "ties_at" = some (some (.ref f2))) (l2:K.lookup f2=some ⟨oc2,od2,.func (PySem.W.fnOf "ties_at" "ties_at" (aU iz) (aH iz) (az iz) .none kV2 dc2 pm2 an2 cd2 ct2),sl2⟩) (c2:PySem.W.codeIn K cd2 "ties_at" = true) (k2:PySem.W.keepIn K (.ref f2)=true)
  (a3:PySem.W.nsIn K mainGlobals "near_lists" = some (some (.ref f3))) (l3:K.lookup f3=some ⟨oc3,od3,.func (PySem.W.fnOf "near_lists" "near_lists" (aU dM) (aH dM) (az dM) .none kV3 dc3 pm3 an3 cd3 ct3),sl3⟩) (c3:PySem.W.codeIn K cd3 "near_lists" = true) (k3:PySem.W.keepIn K (.ref f3)=true)
  (a4:PySem.W.nsIn K mainGlobals "tied_times" = some (some (.ref f4))) (l4:K.lookup f4=some ⟨oc4,od4,.func (PySem.W.fnOf "tied_times" "tied_times" (aU dO) (aH dO) (az dO) .none kV4 dc4 pm4 an4 cd4 ct4),sl4⟩) (c4:PySem.W.codeIn K cd4 "tied_times" = true) (k4:PySem.W.keepIn K (.ref f4)=true)
  (a5:PySem.W.nsIn K mainGlobals "ring_form" = some (some (.ref f5))) (l5:K.lookup f5=some ⟨oc5,od5,.func (PySem.W.fnOf "ring_form" "ring_form" (aU dE) (aH dE) (az dE) .none kV5 dc5 pm5 an5 cd5 ct5),sl5⟩) (c5:PySem.W.codeIn K cd5 "ring_form" = true) (k5:PySem.W.keepIn K (.ref f5)=true)
  (a6:PySem.W.nsIn K mainGlobals "way_about" = some (some (.ref f6))) (l6:K.lookup f6=some ⟨oc6,od6,.func (PySem.W.fnOf "way_about" "way_about" (aU cM) (aH cM) (az cM) .none kV6 dc6 pm6 an6 cd6 ct6),sl6⟩) (c6:PySem.W.codeIn K cd6 "way_about" = true) (k6:PySem.W.keepIn K (.ref f6)=true)
  (a7:PySem.W.nsIn K mainGlobals "ring_along" = some (some (.ref f7))) (l7:K.lookup f7=some ⟨oc7,od7,.func (PySem.W.fnOf "ring_along" "ring_along" (aU cW) (aH cW) (az cW) .none kV7 dc7 pm7 an7 cd7 ct7),sl7⟩) (c7:PySem.W.codeIn K cd7 "ring_along" = true) (k7:PySem.W.keepIn K (.ref f7)=true)
  (a8:PySem.W.nsIn K mainGlobals "shortest_of" = some (some (.ref f8))) (l8:K.lookup f8=some ⟨oc8,od8,.func (PySem.W.fnOf "shortest_of" "shortest_of" (aU cN) (aH cN) (az cN) .none kV8 dc8 pm8 an8 cd8 ct8),sl8⟩) (c8:PySem.W.codeIn K cd8 "shortest_of" = true) (k8:PySem.W.keepIn K (.ref f8)=true)
  (a9:PySem.W.nsIn K mainGlobals "least_along" = some (some (.ref f9))) (l9:K.lookup f9=some ⟨oc9,od9,.func (PySem.W.fnOf "least_along" "least_along" (aU cO) (aH cO) (az cO) .none kV9 dc9 pm9 an9 cd9 ct9),sl9⟩) (c9:PySem.W.codeIn K cd9 "least_along" = true) (k9:PySem.W.keepIn K (.ref f9)=true)
  (a10:PySem.W.nsIn K mainGlobals "least_ring" = some (some (.ref f10))) (l10:K.lookup f10=some ⟨oc10,od10,.func (PySem.W.fnOf "least_ring" "least_ring" (aU cX) (aH cX) (az cX) .none kV10 dc10 pm10 an10 cd10 ct10),sl10⟩) (c10:PySem.W.codeIn K cd10 "least_ring" = true) (k10:PySem.W.keepIn K (.ref f10)=true)
  (a11:PySem.W.nsIn K mainGlobals "peeled_places" = some (some (.ref f11))) (l11:K.lookup f11=some ⟨oc11,od11,.func (PySem.W.fnOf "peeled_places" "peeled_places" (aU bP) (aH bP) (az bP) .none kV11 dc11 pm11 an11 cd11 ct11),sl11⟩) (c11:PySem.W.codeIn K cd11 "peeled_places" = true) (k11:PySem.W.keepIn K (.ref f11)=true)
  (a12:PySem.W.nsIn K mainGlobals "peeled_web" = some (some (.ref f12))) (l12:K.lookup f12=some ⟨oc12,od12,.func (PySem.W.fnOf "peeled_web" "peeled_web" (aU cY) (aH cY) (az cY) .none kV12 dc12 pm12 an12 cd12 ct12),sl12⟩) (c12:PySem.W.codeIn K cd12 "peeled_web" = true) (k12:PySem.W.keepIn K (.ref f12)=true)
  (a13:PySem.W.nsIn K mainGlobals "_law_cell" = some (some (.ref f13))) (l13:K.lookup f13=some ⟨oc13,od13,.func (PySem.W.fnOf "_law_cell" "_law_cell" (aU kF) (aH kF) (az kF) .none kV13 dc13 pm13 an13 cd13 ct13),sl13⟩) (c13:PySem.W.codeIn K cd13 "_law_cell" = true) (k13:PySem.W.keepIn K (.ref f13)=true)
  (a14:PySem.W.nsIn K mainGlobals "_law_deal" = some (some (.ref f14))) (l14:K.lookup f14=some ⟨oc14,od14,.func (PySem.W.fnOf "_law_deal" "_law_deal" (aU kI) (aH kI) (az kI) .none kV14 dc14 pm14 an14 cd14 ct14),sl14⟩) (c14:PySem.W.codeIn K cd14 "_law_deal" = true) (k14:PySem.W.keepIn K (.ref f14)=true)
  (a15:PySem.W.nsIn K mainGlobals "_law_web" = some (some (.ref f15))) (l15:K.lookup f15=some ⟨oc15,od15,.func (PySem.W.fnOf "_law_web" "_law_web" (aU pH) (aH pH) (az pH) .none kV15 dc15 pm15 an15 cd15 ct15),sl15⟩) (c15:PySem.W.codeIn K cd15 "_law_web" = true) (k15:PySem.W.keepIn K (.ref f15)=true)
  (a16:PySem.W.nsIn K mainGlobals "_law_wide" = some (some (.ref f16))) (l16:K.lookup f16=some ⟨oc16,od16,.func (PySem.W.fnOf "_law_wide" "_law_wide" (aU kJ) (aH kJ) (az kJ) .none kV16 dc16 pm16 an16 cd16 ct16),sl16⟩) (c16:PySem.W.codeIn K cd16 "_law_wide" = true) (k16:PySem.W.keepIn K (.ref f16)=true)
  (a17:PySem.W.nsIn K mainGlobals "_law_dense" = some (some (.ref f17))) (l17:K.lookup f17=some ⟨oc17,od17,.func (PySem.W.fnOf "_law_dense" "_law_dense" (aU iA) (aH iA) (az iA) .none kV17 dc17 pm17 an17 cd17 ct17),sl17⟩) (c17:PySem.W.codeIn K cd17 "_law_dense" = true) (k17:PySem.W.keepIn K (.ref f17)=true)
  (a18:PySem.W.nsIn K mainGlobals "_law_times" = some (some (.ref f18))) (l18:K.lookup f18=some ⟨oc18,od18,.func (PySem.W.fnOf "_law_times" "_law_times" (aU gz) (aH gz) (az gz) .none kV18 dc18 pm18 an18 cd18 ct18),sl18⟩) (c18:PySem.W.codeIn K cd18 "_law_times" = true) (k18:PySem.W.keepIn K (.ref f18)=true)
  (a19:PySem.W.nsIn K mainGlobals "_law_is_ring" = some (some (.ref f19))) (l19:K.lookup f19=some ⟨oc19,od19,.func (PySem.W.fnOf "_law_is_ring" "_law_is_ring" (aU eR) (aH eR) (az eR) .none kV19 dc19 pm19 an19 cd19 ct19),sl19⟩) (c19:PySem.W.codeIn K cd19 "_law_is_ring" = true) (k19:PySem.W.keepIn K (.ref f19)=true)
  (a20:PySem.W.nsIn K mainGlobals "_law_form" = some (some (.ref f20))) (l20:K.lookup f20=some ⟨oc20,od20,.func (PySem.W.fnOf "_law_form" "_law_form" (aU iY) (aH iY) (az iY) .none kV20 dc20 pm20 an20 cd20 ct20),sl20⟩) (c20:PySem.W.codeIn K cd20 "_law_form" = true) (k20:PySem.W.keepIn K (.ref f20)=true)
  (a21:PySem.W.nsIn K mainGlobals "_law_is_wood" = some (some (.ref f21))) (l21:K.lookup f21=some ⟨oc21,od21,.func (PySem.W.fnOf "_law_is_wood" "_law_is_wood" (aU eU) (aH eU) (az eU) .none kV21 dc21 pm21 an21 cd21 ct21),sl21⟩) (c21:PySem.W.codeIn K cd21 "_law_is_wood" = true) (k21:PySem.W.keepIn K (.ref f21)=true)
  (a22:PySem.W.nsIn K mainGlobals "_law_peel_right" = some (some (.ref f22))) (l22:K.lookup f22=some ⟨oc22,od22,.func (PySem.W.fnOf "_law_peel_right" "_law_peel_right" (aU di) (aH di) (az di) .none kV22 dc22 pm22 an22 cd22 ct22),sl22⟩) (c22:PySem.W.codeIn K cd22 "_law_peel_right" = true) (k22:PySem.W.keepIn K (.ref f22)=true)
  (a23:PySem.W.nsIn K mainGlobals "_law_wholes" = some (some (.ref f23))) (l23:K.lookup f23=some ⟨oc23,od23,.func (PySem.W.fnOf "_law_wholes" "_law_wholes" (aU eV) (aH eV) (az eV) .none kV23 dc23 pm23 an23 cd23 ct23),sl23⟩) (c23:PySem.W.codeIn K cd23 "_law_wholes" = true) (k23:PySem.W.keepIn K (.ref f23)=true)
  (a24:PySem.W.nsIn K mainGlobals "law" = some (some (.ref f24))) (l24:K.lookup f24=some ⟨oc24,od24,.func (PySem.W.fnOf "law" "law" (aU iZ) (aH iZ) (az iZ) .none kV24 dc24 pm24 an24 cd24 ct24),sl24⟩) (c24:PySem.W.codeIn K cd24 "law" = true) (k24:PySem.W.keepIn K (.ref f24)=true)
  (y_all:PySem.W.nsIn K mainGlobals "all" = some none)
  (y_bool:PySem.W.nsIn K mainGlobals "bool" = some none)
  (y_divmod:PySem.W.nsIn K mainGlobals "divmod" = some none)
  (y_enumerate:PySem.W.nsIn K mainGlobals "enumerate" = some none)
  (y_int:PySem.W.nsIn K mainGlobals "int" = some none)
  (y_isinstance:PySem.W.nsIn K mainGlobals "isinstance" = some none)
  (y_len:PySem.W.nsIn K mainGlobals "len" = some none)
  (y_list:PySem.W.nsIn K mainGlobals "list" = some none)
  (y_max:PySem.W.nsIn K mainGlobals "max" = some none)
  (y_min:PySem.W.nsIn K mainGlobals "min" = some none)
  (y_range:PySem.W.nsIn K mainGlobals "range" = some none)
  (y_reversed:PySem.W.nsIn K mainGlobals "reversed" = some none)
  (y_set:PySem.W.nsIn K mainGlobals "set" = some none)
  (y_sorted:PySem.W.nsIn K mainGlobals "sorted" = some none)
  (y_sum:PySem.W.nsIn K mainGlobals "sum" = some none)
  (y_tuple:PySem.W.nsIn K mainGlobals "tuple" = some none)
  : ∃ fd:FuncData,(∀ (s:Shared) (v:Value),BindsTo s fd ⟨[v],[]⟩ [("script",v)])/\∀ base:Heap,K.In base->base.Ns mainGlobals mg->cB l.prog w K mg base CX0 7 fa fd ["script"] (qj K):=by
 have e:=hfa.symm.trans (BC X G a24)
 cases e
 have F1:=bF (st:=kE) l1 c1 k1
 have m1:=BC X G a1
 have b1:=F1.binds (ps:=["one", "other"]) fun _ _ _ _ _ _ us hl=>match us,hl with | [_,_],_=>rfl
 have F2:=bF (st:=iz) l2 c2 k2
 have m2:=BC X G a2
 have b2:=F2.binds (ps:=["web", "place"]) fun _ _ _ _ _ _ us hl=>match us,hl with | [_,_],_=>rfl
 have F3:=bF (st:=dM) l3 c3 k3
 have m3:=BC X G a3
 have b3:=F3.binds (ps:=["web"]) fun _ _ _ _ _ _ us hl=>match us,hl with | [_],_=>rfl
 have F4:=bF (st:=dO) l4 c4 k4
 have m4:=BC X G a4
 have b4:=F4.binds (ps:=["web", "one", "other"]) fun _ _ _ _ _ _ us hl=>match us,hl with | [_,_,_],_=>rfl
 have F5:=bF (st:=dE) l5 c5 k5
 have m5:=BC X G a5
 have b5:=F5.binds (ps:=["ring"]) fun _ _ _ _ _ _ us hl=>match us,hl with | [_],_=>rfl
 have F6:=bF (st:=cM) l6 c6 k6
 have m6:=BC X G a6
 have b6:=F6.binds (ps:=["near", "start", "goal"]) fun _ _ _ _ _ _ us hl=>match us,hl with | [_,_,_],_=>rfl
 have F7:=bF (st:=cW) l7 c7 k7
 have m7:=BC X G a7
 have b7:=F7.binds (ps:=["web", "near", "tie"]) fun _ _ _ _ _ _ us hl=>match us,hl with | [_,_,_],_=>rfl
 have F8:=bF (st:=cN) l8 c8 k8
 have m8:=BC X G a8
 have b8:=F8.binds (ps:=["ways"]) fun _ _ _ _ _ _ us hl=>match us,hl with | [_],_=>rfl
 have F9:=bF (st:=cO) l9 c9 k9
 have m9:=BC X G a9
 have b9:=F9.binds (ps:=["web", "ties"]) fun _ _ _ _ _ _ us hl=>match us,hl with | [_,_],_=>rfl
 have F10:=bF (st:=cX) l10 c10 k10
 have m10:=BC X G a10
 have b10:=F10.binds (ps:=["web"]) fun _ _ _ _ _ _ us hl=>match us,hl with | [_],_=>rfl
 have F11:=bF (st:=bP) l11 c11 k11
 have m11:=BC X G a11
 have b11:=F11.binds (ps:=["web"]) fun _ _ _ _ _ _ us hl=>match us,hl with | [_],_=>rfl
 have F12:=bF (st:=cY) l12 c12 k12
 have m12:=BC X G a12
 have b12:=F12.binds (ps:=["web"]) fun _ _ _ _ _ _ us hl=>match us,hl with | [_],_=>rfl
 have F13:=bF (st:=kF) l13 c13 k13
 have m13:=BC X G a13
 have b13:=F13.binds (ps:=["script", "k"]) fun _ _ _ _ _ _ us hl=>match us,hl with | [_,_],_=>rfl
 have F14:=bF (st:=kI) l14 c14 k14
 have m14:=BC X G a14
 have b14:=F14.binds (ps:=["cell", "salt"]) fun _ _ _ _ _ _ us hl=>match us,hl with | [_,_],_=>rfl
 have F15:=bF (st:=pH) l15 c15 k15
 have m15:=BC X G a15
 have b15:=F15.binds (ps:=["number", "most"]) fun _ _ _ _ _ _ us hl=>match us,hl with | [_,_],_=>rfl
 have F16:=bF (st:=kJ) l16 c16 k16
 have m16:=BC X G a16
 have b16:=F16.binds (ps:=["number"]) fun _ _ _ _ _ _ us hl=>match us,hl with | [_],_=>rfl
 have F17:=bF (st:=iA) l17 c17 k17
 have m17:=BC X G a17
 have b17:=F17.binds (ps:=["number"]) fun _ _ _ _ _ _ us hl=>match us,hl with | [_],_=>rfl
 have F18:=bF (st:=gz) l18 c18 k18
 have m18:=BC X G a18
 have b18:=F18.binds (ps:=["web", "one", "other"]) fun _ _ _ _ _ _ us hl=>match us,hl with | [_,_,_],_=>rfl
 have F19:=bF (st:=eR) l19 c19 k19
 have m19:=BC X G a19
 have b19:=F19.binds (ps:=["web", "ring"]) fun _ _ _ _ _ _ us hl=>match us,hl with | [_,_],_=>rfl
 have F20:=bF (st:=iY) l20 c20 k20
 have m20:=BC X G a20
 have b20:=F20.binds (ps:=["ring"]) fun _ _ _ _ _ _ us hl=>match us,hl with | [_],_=>rfl
 have F21:=bF (st:=eU) l21 c21 k21
 have m21:=BC X G a21
 have b21:=F21.binds (ps:=["web"]) fun _ _ _ _ _ _ us hl=>match us,hl with | [_],_=>rfl
 have F22:=bF (st:=di) l22 c22 k22
 have m22:=BC X G a22
 have b22:=F22.binds (ps:=["web", "order", "places"]) fun _ _ _ _ _ _ us hl=>match us,hl with | [_,_,_],_=>rfl
 have F23:=bF (st:=eV) l23 c23 k23
 have m23:=BC X G a23
 have b23:=F23.binds (ps:=["found"]) fun _ _ _ _ _ _ us hl=>match us,hl with | [_],_=>rfl
 have F24:=bF (st:=iZ) l24 c24 k24
 have m24:=BC X G a24
 have z_all:=BE X G y_all
 have z_bool:=BE X G y_bool
 have z_divmod:=BE X G y_divmod
 have z_enumerate:=BE X G y_enumerate
 have z_int:=BE X G y_int
 have z_isinstance:=BE X G y_isinstance
 have z_len:=BE X G y_len
 have z_list:=BE X G y_list
 have z_max:=BE X G y_max
 have z_min:=BE X G y_min
 have z_range:=BE X G y_range
 have z_reversed:=BE X G y_reversed
 have z_set:=BE X G y_set
 have z_sorted:=BE X G y_sorted
 have z_sum:=BE X G y_sum
 have z_tuple:=BE X G y_tuple
 refine ⟨PySem.W.fnOf "law" "law" (aU iZ) (aH iZ) (az iZ) .none kV24 dc24 pm24 an24 cd24 ct24,fun s v => .of_eq rfl,fun base kb nb => ?_⟩
 have B:Blt mg:=⟨z_all,z_bool,z_divmod,z_enumerate,z_int,z_isinstance,z_len,z_list,z_max,z_min,z_range,z_reversed,z_set,z_sorted,z_sum,z_tuple⟩
 have cLDeal:Cal l.prog w K mg base 1 "_law_deal" ["cell", "salt"] kM:=⟨_,_,zJ F14 B,m14,k14,b14⟩
 have cNearLists:Cal l.prog w K mg base 1 "near_lists" ["web"] gD:=⟨_,_,xR F3 z_range z_set z_sorted,m3,k3,b3⟩
 have cTiesAt:Cal l.prog w K mg base 1 "ties_at" ["web", "place"] vV:=⟨_,_,okAt F2 z_sum,m2,k2,b2⟩
 have cPeeledPlaces:Cal l.prog w K mg base 2 "peeled_places" ["web"] kY:=⟨_,_,lb F11 B cNearLists cTiesAt,m11,k11,b11⟩
 have cShortestOf:Cal l.prog w K mg base 1 "shortest_of" ["ways"] iE:=⟨_,_,oh F8 B,m8,k8,b8⟩
 have cRingForm:Cal l.prog w K mg base 1 "ring_form" ["ring"] kQ:=⟨_,_,rj F5 B,m5,k5,b5⟩
 have cWayAbout:Cal l.prog w K mg base 1 "way_about" ["near", "start", "goal"] pO:=⟨_,_,rn F6 B,m6,k6,b6⟩
 have cTieOf:Cal l.prog w K mg base 1 "tie_of" ["one", "other"] vW:=⟨_,_,AI F1 z_max z_min,m1,k1,b1⟩
 have cTiedTimes:Cal l.prog w K mg base 2 "tied_times" ["web", "one", "other"] dY:=⟨_,_,xU F4 cTieOf,m4,k4,b4⟩
 have cRingAlong:Cal l.prog w K mg base 3 "ring_along" ["web", "near", "tie"] iC:=⟨_,_,pR F7 B cWayAbout cTiedTimes,m7,k7,b7⟩
 have cLeastAlong:Cal l.prog w K mg base 4 "least_along" ["web", "ties"] pW:=⟨_,_,oj F9 B cNearLists cShortestOf cRingForm cRingAlong,m9,k9,b9⟩
 have cLeastRing:Cal l.prog w K mg base 5 "least_ring" ["web"] iF:=⟨_,_,p8 F10 B cLeastAlong,m10,k10,b10⟩
 have cPeeledWeb:Cal l.prog w K mg base 6 "peeled_web" ["web"] wC:=⟨_,_,qi F12 B cPeeledPlaces cLeastRing,m12,k12,b12⟩
 have cLIsWood:Cal l.prog w K mg base 1 "_law_is_wood" ["web"] lh:=⟨_,_,uv F21 B,m21,k21,b21⟩
 have cLCell:Cal l.prog w K mg base 1 "_law_cell" ["script", "k"] (kK K):=⟨_,_,zI F13 B,m13,k13,b13⟩
 have cLWide:Cal l.prog w K mg base 1 "_law_wide" ["number"] fT:=⟨_,_,zM F16 B,m16,k16,b16⟩
 have cLWeb:Cal l.prog w K mg base 1 "_law_web" ["number", "most"] kN:=⟨_,_,zL F15 B,m15,k15,b15⟩
 have cLDense:Cal l.prog w K mg base 1 "_law_dense" ["number"] fT:=⟨_,_,xQ F17 B,m17,k17,b17⟩
 have cLWholes:Cal l.prog w K mg base 1 "_law_wholes" ["found"] gc:=⟨_,_,ux F23 B,m23,k23,b23⟩
 have cLPeelRight:Cal l.prog w K mg base 1 "_law_peel_right" ["web", "order", "places"] gg:=⟨_,_,wB F22 B z_enumerate,m22,k22,b22⟩
 have cLForm:Cal l.prog w K mg base 1 "_law_form" ["ring"] iI:=⟨_,_,x9 F20 B,m20,k20,b20⟩
 have cLTimes:Cal l.prog w K mg base 1 "_law_times" ["web", "one", "other"] dY:=⟨_,_,wq F18 B,m18,k18,b18⟩
 have cLIsRing:Cal l.prog w K mg base 2 "_law_is_ring" ["web", "ring"] qf:=⟨_,_,uo F19 B cLTimes,m19,k19,b19⟩
 exact AL F24 B cLDeal cPeeledWeb cLIsWood cLCell cLWide cLWeb cLDense cLWholes cLPeelRight cLForm cLIsRing
theorem walk {l:PySem.W.OpenLaw} {q:Program} {loose:List Str} {XP:(Str->Option Value)->Heap->Prop} {YP:World->Heap->Prop} {d:DefRec} {K:Params->PySem.W.Frag} (hn:l.most=some 63) (hdf:d.params.defaults=[])
  (hY:∀ (w:World) (h:Heap),YP w h->(K w.params).In h)
  (F:∀ (w:World) (mg:Str->Option Value) (fa:Addr) (h:Heap),(K w.params).In h->h.Ns mainGlobals mg->mg d.name=some (.ref fa) →
   ∃ fd:FuncData,(∀ (s:Shared) (u:Value),BindsTo s fd ⟨[u],[]⟩ [("script",u)])/\∀ base:Heap,(K w.params).In base->base.Ns mainGlobals mg->cB l.prog w (K w.params) mg base CX0 7 fa fd ["script"] (qj (K w.params))) :
  PySem.W.WalkO q loose XP YP l.row.toRowW d [] (fun f vs=>PySem.call f vs) :=
 L2.wW (n:=63) (k:=7) (x := "script") (CX:=fun _=>CX0) (sp:=fun w=>qj (K w.params)) hn (by decide) hdf ⟨rfl,by decide,by decide⟩ hY F (fun _ _ a ns hl _ hS=>⟨a,ns,rfl,hS,hl,fun _=>rfl⟩) fun _ _ _ _ _ z=>z
end K10
def PySem.W.Fast.tw14129914622784843109:Nat:=0
def PySem.W.Fast.tw4685853868264597982:Nat:=0
def PySem.W.Fast.tw9661587682741715490:Nat:=0
def PySem.W.Fast.tw1848432053129758917:Nat:=0
def PySem.W.Fast.tw2436353303715622634:Nat:=0
def PySem.W.Fast.tw2249227826857153668:Nat:=0
def PySem.W.Fast.tw18182021394782637453:Nat:=0
def PySem.W.Fast.tw2221050143243849393:Nat:=0
def PySem.W.Fast.tw12360253243006195048:Nat:=0
def PySem.W.Fast.tw15096914384756435766:Nat:=0
def PySem.W.Fast.tw17107061832576085432:Nat:=0
def PySem.W.Fast.tw6844442565713922395:Nat:=0
def PySem.W.Fast.tw16412611818199006022:Nat:=0
def PySem.W.Fast.tw10157674335885762711:Nat:=0
def PySem.W.Fast.tw6209811520254740325:Nat:=0
def PySem.W.Fast.tw14657993080375528451:Nat:=0
def PySem.W.Fast.tw1118275576775719771:Nat:=0
def PySem.W.Fast.tw13829084565273555496:Nat:=0
def PySem.W.Fast.tw12515895238791471170:Nat:=0
def PySem.W.Fast.tw14918942163790343091:Nat:=0
def PySem.W.Fast.tw2091870473271497036:Nat:=0
def PySem.W.Fast.tw2012245324189415374:Nat:=0
def PySem.W.Fast.tw13710205399390121436:Nat:=0
def PySem.W.Fast.tw4747248446400059406:Nat:=0
def PySem.W.Fast.tw15322609847882384302:Nat:=0
def PySem.W.Fast.tw5605472052431638974:Nat:=0
def PySem.W.Fast.tw6940252223382328969:Nat:=0
def PySem.W.Fast.tw4181016611812898064:Nat:=0
def PySem.W.Fast.tw13855675716009238039:Nat:=0
def PySem.W.Fast.tw13660795019842417212:Nat:=0
def PySem.W.Fast.tw64722754097884328:Nat:=0
def PySem.W.Fast.tw12684190842771603158:Nat:=0
def PySem.W.Fast.tw5653462963795913954:Nat:=0
def PySem.W.Fast.tw5264071075018132727:Nat:=0
def PySem.W.Fast.tw17108684710475863914:Nat:=0
def PySem.W.Fast.tw13281266545711339867:Nat:=0
def PySem.W.Fast.tw15896393269575935454:Nat:=0
def PySem.W.Fast.tw5809244024787176727:Nat:=0
def PySem.W.Fast.tw18142026191738682206:Nat:=0
def PySem.W.Fast.tw8545490249625229570:Nat:=0
def PySem.W.Fast.tw7090869562201619328:Nat:=0
def PySem.W.Fast.tw3112790321097209497:Nat:=0
def PySem.W.Fast.tw6034146271340202539:Nat:=0
def PySem.W.Fast.tw14980154571674326936:Nat:=0
def PySem.W.Fast.tw1503632610102535166:Nat:=0
def PySem.W.Fast.tw10997394485147620120:Nat:=0
def PySem.W.Fast.tw359565932059900775:Nat:=0
def PySem.W.Fast.tw2746081061494979107:Nat:=0
def PySem.W.Fast.tw10571239001974880280:Nat:=0
def PySem.W.Fast.tw6482619783669216955:Nat:=0
def PySem.W.Fast.tw3574068603960011945:Nat:=0
def PySem.W.Fast.tw17782887612572089995:Nat:=0
def PySem.W.Fast.tw14256260738815852363:Nat:=0
def PySem.W.Fast.tw3978024508423593378:Nat:=0
def PySem.W.Fast.tw11235158157606201407:Nat:=0
open PySem PySem.W PyProof.Rows
set_option maxRecDepth 100000 in
set_option maxHeartbeats 0 in
theorem PySem.Challenge.cw_ringfell_k10_peeled_holds : PySem.Challenge.rw_ringfell_k10_peeled.Holds := by
 w_on; o_law; k_head; (case hw=>w_witness2)
 k_fill
 refine K10.walk (l:=PySem.Challenge.rw_ringfell_k10_peeled) rfl rfl (fun w h Y=>PySem.W.kIn_of Y) ?F
 case F =>
  intro w mg fa h KX G hmg
  refine' K10.all_mk KX G hmg ?a1 ?l1 ?c1 ?k1 ?a2 ?l2 ?c2 ?k2 ?a3 ?l3 ?c3 ?k3 ?a4 ?l4 ?c4 ?k4 ?a5 ?l5 ?c5 ?k5 ?a6 ?l6 ?c6 ?k6 ?a7 ?l7 ?c7 ?k7 ?a8 ?l8 ?c8 ?k8 ?a9 ?l9 ?c9 ?k9 ?a10 ?l10 ?c10 ?k10 ?a11 ?l11 ?c11 ?k11 ?a12 ?l12 ?c12 ?k12 ?a13 ?l13 ?c13 ?k13 ?a14 ?l14 ?c14 ?k14 ?a15 ?l15 ?c15 ?k15 ?a16 ?l16 ?c16 ?k16 ?a17 ?l17 ?c17 ?k17 ?a18 ?l18 ?c18 ?k18 ?a19 ?l19 ?c19 ?k19 ?a20 ?l20 ?c20 ?k20 ?a21 ?l21 ?c21 ?k21 ?a22 ?l22 ?c22 ?k22 ?a23 ?l23 ?c23 ?k23 ?a24 ?l24 ?c24 ?k24 ?y_all ?y_bool ?y_divmod ?y_enumerate ?y_int ?y_isinstance ?y_len ?y_list ?y_max ?y_min ?y_range ?y_reversed ?y_set ?y_sorted ?y_sum ?y_tuple
  (case a1=>k_is)
  (case l1=>k_is)
  (case c1=>k_is)
  (case k1=>k_is)
  (case a2=>k_is)
  (case l2=>k_is)
  (case c2=>k_is)
  (case k2=>k_is)
  (case a3=>k_is)
  (case l3=>k_is)
  (case c3=>k_is)
  (case k3=>k_is)
  (case a4=>k_is)
  (case l4=>k_is)
  (case c4=>k_is)
  (case k4=>k_is)
  (case a5=>k_is)
  (case l5=>k_is)
  (case c5=>k_is)
  (case k5=>k_is)
  (case a6=>k_is)
  (case l6=>k_is)
  (case c6=>k_is)
  (case k6=>k_is)
  (case a7=>k_is)
  (case l7=>k_is)
  (case c7=>k_is)
  (case k7=>k_is)
  (case a8=>k_is)
  (case l8=>k_is)
  (case c8=>k_is)
  (case k8=>k_is)
  (case a9=>k_is)
  (case l9=>k_is)
  (case c9=>k_is)
  (case k9=>k_is)
  (case a10=>k_is)
  (case l10=>k_is)
  (case c10=>k_is)
  (case k10=>k_is)
  (case a11=>k_is)
  (case l11=>k_is)
  (case c11=>k_is)
  (case k11=>k_is)
  (case a12=>k_is)
  (case l12=>k_is)
  (case c12=>k_is)
  (case k12=>k_is)
  (case a13=>k_is)
  (case l13=>k_is)
  (case c13=>k_is)
  (case k13=>k_is)
  (case a14=>k_is)
  (case l14=>k_is)
  (case c14=>k_is)
  (case k14=>k_is)
  (case a15=>k_is)
  (case l15=>k_is)
  (case c15=>k_is)
  (case k15=>k_is)
  (case a16=>k_is)
  (case l16=>k_is)
  (case c16=>k_is)
  (case k16=>k_is)
  (case a17=>k_is)
  (case l17=>k_is)
  (case c17=>k_is)
  (case k17=>k_is)
  (case a18=>k_is)
  (case l18=>k_is)
  (case c18=>k_is)
  (case k18=>k_is)
  (case a19=>k_is)
  (case l19=>k_is)
  (case c19=>k_is)
  (case k19=>k_is)
  (case a20=>k_is)
  (case l20=>k_is)
  (case c20=>k_is)
  (case k20=>k_is)
  (case a21=>k_is)
  (case l21=>k_is)
  (case c21=>k_is)
  (case k21=>k_is)
  (case a22=>k_is)
  (case l22=>k_is)
  (case c22=>k_is)
  (case k22=>k_is)
  (case a23=>k_is)
  (case l23=>k_is)
  (case c23=>k_is)
  (case k23=>k_is)
  (case a24=>k_is)
  (case l24=>k_is)
  (case c24=>k_is)
  (case k24=>k_is)
  (case y_all=>k_is)
  (case y_bool=>k_is)
  (case y_divmod=>k_is)
  (case y_enumerate=>k_is)
  (case y_int=>k_is)
  (case y_isinstance=>k_is)
  (case y_len=>k_is)
  (case y_list=>k_is)
  (case y_max=>k_is)
  (case y_min=>k_is)
  (case y_range=>k_is)
  (case y_reversed=>k_is)
  (case y_set=>k_is)
  (case y_sorted=>k_is)
  (case y_sum=>k_is)
  (case y_tuple=>k_is)
