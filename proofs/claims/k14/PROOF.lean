import PyProof.Rows.All
import Wide.All
import OpenK.AllK
import Wide.FinOn
import Lean
import PyProof.EqAt
import PyProof.EqKinds
import PyProof.TupleCall
import PyProof.NeKinds
import PyProof.SliceStr2
import KE.KDictList
import PyProof.CollectIter
import PyProof.EnumFor
import PyProof.EnumMake
import PyProof.LayNew
import PySem.Str
import PyProof.Rows.RegStrFacts
import PyProof.StrLawsRepr
import KE.KMinKey
import PyProof.WalkInts
import PyProof.Rows.CallKwBuiltin
import PyProof.ListRange
import PySem.Challenge.RW_patchkin_k14_whole_settled
set_option Elab.async false
set_option linter.all false
set_option maxRecDepth 100000
set_option maxHeartbeats 0
theorem TU:type_of% @List.length_map:=@List.length_map
theorem TZ:type_of% @List.getElem?_eq_getElem:=@List.getElem?_eq_getElem
theorem T1:type_of% @PySem.wpAny_bind:=@PySem.wpAny_bind
theorem WG:type_of% @List.mem_singleton:=@List.mem_singleton
theorem WI:type_of% @List.mem_of_getElem?:=@List.mem_of_getElem?
theorem WL:type_of% @Nat.le_refl:=@Nat.le_refl
theorem WM:type_of% @decide_eq_true:=@decide_eq_true
theorem W4:type_of% @List.length_append:=@List.length_append
theorem XE:type_of% @List.mem_map_of_mem:=@List.mem_map_of_mem
theorem XI:type_of% @Nat.le_trans:=@Nat.le_trans
theorem Z3:type_of% @List.mem_append:=@List.mem_append
theorem Z4:type_of% @List.getElem?_map:=@List.getElem?_map
theorem Z6:type_of% @decide_eq_false:=@decide_eq_false
theorem Z8:type_of% @List.mem_cons:=@List.mem_cons
theorem aaa:type_of% @List.filter_cons_of_pos:=@List.filter_cons_of_pos
theorem aab:type_of% @PySem.Heap.get?_push_of_some:=@PySem.Heap.get?_push_of_some
theorem aac:type_of% @List.length_cons:=@List.length_cons
theorem aad:type_of% @List.filter_cons_of_neg:=@List.filter_cons_of_neg
theorem aae:type_of% @List.mem_cons_of_mem:=@List.mem_cons_of_mem
theorem aaf:type_of% @Bool.false_ne_true:=@Bool.false_ne_true
theorem aag:type_of% @PySem.wpAny_pure:=@PySem.wpAny_pure
theorem aah:type_of% @PySem.boot_len:=@PySem.boot_len
theorem aai:type_of% @List.size_toArray:=@List.size_toArray
theorem aaj:type_of% @PySem.Paired.length:=@PySem.Paired.length
theorem aak:type_of% @of_decide_eq_true:=@of_decide_eq_true
theorem aal:type_of% @List.mem_cons_self:=@List.mem_cons_self
theorem aam:type_of% @PySem.PassesOwn.never:=@PySem.PassesOwn.never
theorem aan:type_of% @PySem.W.mg_of:=@PySem.W.mg_of
theorem aao:type_of% @List.mem_filter:=@List.mem_filter
theorem aap:type_of% @if_neg:=@if_neg
theorem aaq:type_of% @List.take_length:=@List.take_length
theorem aar:type_of% @if_pos:=@if_pos
theorem aas:type_of% @List.mem_append_left:=@List.mem_append_left
theorem aat:type_of% @List.map_append:=@List.map_append
theorem aau:type_of% @PySem.Heap.lt_size:=@PySem.Heap.lt_size
theorem aav:type_of% @PySem.Heap.get?_push_size:=@PySem.Heap.get?_push_size
theorem aaw:type_of% @PySem.sizeLine_eq:=@PySem.sizeLine_eq
theorem aax:type_of% @List.map_cons:=@List.map_cons
theorem aay:type_of% @List.length_take:=@List.length_take
theorem aaz:type_of% @Nat.zero_le:=@Nat.zero_le
theorem aaA:type_of% @Option.some.inj:=@Option.some.inj
theorem aaB:type_of% @List.filter_append:=@List.filter_append
theorem aaC:type_of% @List.mem_iff_getElem?:=@List.mem_iff_getElem?
theorem aaD:type_of% @Nat.lt_of_lt_of_le:=@Nat.lt_of_lt_of_le
theorem aaE:type_of% @List.length_filter_le:=@List.length_filter_le
theorem aaF:type_of% @List.Sublist.refl:=@List.Sublist.refl
theorem aaG:type_of% @List.length_eq_zero_iff:=@List.length_eq_zero_iff
theorem aaH:type_of% @List.flatMap_cons:=@List.flatMap_cons
theorem aaI:type_of% @PySem.F.plainAttrs_list:=@PySem.F.plainAttrs_list
theorem aaJ:type_of% @List.pairwise_iff_getElem:=@List.pairwise_iff_getElem
theorem aaK:type_of% @List.append_nil:=@List.append_nil
theorem aaL:type_of% @List.mem_append_right:=@List.mem_append_right
theorem aaM:type_of% @PySem.F.slot_list_append:=@PySem.F.slot_list_append
theorem aaN:type_of% @PySem.F.type_list_append:=@PySem.F.type_list_append
theorem aaO:type_of% @List.filter_sublist:=@List.filter_sublist
theorem aaP:type_of% @List.filter_nil:=@List.filter_nil
theorem aaQ:type_of% @List.append_assoc:=@List.append_assoc
theorem aaR:type_of% @List.length_range:=@List.length_range
theorem aaS:type_of% @PyProof.Rows.boot_isinstance:=@PyProof.Rows.boot_isinstance
theorem aaT:type_of% @List.drop_eq_getElem_cons:=@List.drop_eq_getElem_cons
theorem aaU:type_of% @Nat.ne_of_lt:=@Nat.ne_of_lt
theorem aaV:type_of% @Bool.false_eq_true:=@Bool.false_eq_true
theorem aaW:type_of% @PySem.W.mg_none_of:=@PySem.W.mg_none_of
theorem aaX:type_of% @List.mem_range:=@List.mem_range
theorem aaY:type_of% @Array.getElem?_eq_getElem:=@Array.getElem?_eq_getElem
theorem aaZ:type_of% @PyProof.Rows.callWith_type1:=@PyProof.Rows.callWith_type1
theorem aa0:type_of% @List.nodup_cons:=@List.nodup_cons
theorem aa1:type_of% @PySem.Heap.get?_update_other:=@PySem.Heap.get?_update_other
theorem aa2:type_of% @Int.toNat_natCast:=@Int.toNat_natCast
theorem aa3:type_of% @List.nodup_append:=@List.nodup_append
theorem aa4:type_of% @PySem.Heap.get?_update_self:=@PySem.Heap.get?_update_self
theorem aa5:type_of% @List.sublist_append_right:=@List.sublist_append_right
theorem aa6:type_of% @congrArg:=@congrArg
theorem aa7:type_of% @List.getElem?_take:=@List.getElem?_take
theorem aa8:type_of% @Array.getElem?_toList:=@Array.getElem?_toList
theorem aa9:type_of% @List.getElem?_append_right:=@List.getElem?_append_right
theorem aa_:type_of% @List.mem_flatMap:=@List.mem_flatMap
theorem aba:type_of% @List.getElem?_append_left:=@List.getElem?_append_left
theorem abb:type_of% @List.getElem?_set_self:=@List.getElem?_set_self
theorem abc:type_of% @Array.length_toList:=@Array.length_toList
theorem abd:type_of% @List.replicate_succ:=@List.replicate_succ
theorem abe:type_of% @List.flatMap_append:=@List.flatMap_append
theorem abf:type_of% @Bool.and_eq_true:=@Bool.and_eq_true
theorem abg:type_of% @Nat.lt_irrefl:=@Nat.lt_irrefl
theorem abh:type_of% @PySem.wpAny_dictEntries:=@PySem.wpAny_dictEntries
theorem abi:type_of% @List.getElem?_set_ne:=@List.getElem?_set_ne
theorem abj:type_of% @PySem.Calls.spliced_cons:=@PySem.Calls.spliced_cons
theorem abk:type_of% @Nat.lt_of_le_of_lt:=@Nat.lt_of_le_of_lt
theorem abl:type_of% @PySem.Calls.callWith_builtin:=@PySem.Calls.callWith_builtin
theorem abm:type_of% @PyProof.Rows.boot_list:=@PyProof.Rows.boot_list
theorem abn:type_of% @PySem.F.plain_max_loop:=@PySem.F.plain_max_loop
theorem abo:type_of% @PySem.W.kia_one:=@PySem.W.kia_one
theorem abp:type_of% @List.nodup_nil:=@List.nodup_nil
theorem abq:type_of% @List.filterMap_cons:=@List.filterMap_cons
theorem abr:type_of% @List.length_reverse:=@List.length_reverse
theorem abt:type_of% @PySem.Heap.SameBut.update:=@PySem.Heap.SameBut.update
theorem abu:type_of% @List.getElem?_range:=@List.getElem?_range
theorem abv:type_of% @PySem.wpAny_truthy_bool:=@PySem.wpAny_truthy_bool
theorem abw:type_of% @PySem.F.slot_dict_keyiterator_next:=@PySem.F.slot_dict_keyiterator_next
theorem abx:type_of% @decide_eq_true_iff:=@decide_eq_true_iff
theorem aby:type_of% @PySem.Calls.evalArgs_plain:=@PySem.Calls.evalArgs_plain
theorem abz:type_of% @List.sublist_cons_self:=@List.sublist_cons_self
theorem abA:type_of% @PySem.wpAny_mono:=@PySem.wpAny_mono
theorem abB:type_of% @PySem.Calls.spliced_nil:=@PySem.Calls.spliced_nil
theorem abC:type_of% @PySem.mem_of_lookup:=@PySem.mem_of_lookup
theorem abD:type_of% @PySem.wpAny_holding:=@PySem.wpAny_holding
theorem abE:type_of% @List.take_zero:=@List.take_zero
theorem abF:type_of% @Bool.eq_iff_iff:=@Bool.eq_iff_iff
theorem abG:type_of% @List.take_append_drop:=@List.take_append_drop
theorem abH:type_of% @List.filterMap_append:=@List.filterMap_append
theorem abI:type_of% @List.mem_filterMap:=@List.mem_filterMap
theorem abJ:type_of% @PySem.tupleKind_room_in1:=@PySem.tupleKind_room_in1
theorem abK:type_of% @Ne.symm:=@Ne.symm
theorem abL:type_of% @List.all_eq_true:=@List.all_eq_true
theorem abM:type_of% @PySem.wpAny_typeNameOfWhole_keyiter:=@PySem.wpAny_typeNameOfWhole_keyiter
theorem abN:type_of% @List.flatMap_nil:=@List.flatMap_nil
theorem abO:type_of% @PySem.F.plainAttrs_dict:=@PySem.F.plainAttrs_dict
theorem abP:type_of% @Bool.eq_false_iff:=@Bool.eq_false_iff
theorem abQ:type_of% @List.getElem?_inj:=@List.getElem?_inj
theorem abR:type_of% @List.take_of_length_le:=@List.take_of_length_le
theorem abS:type_of% @if_false:=@if_false
theorem abT:type_of% @PySem.wpAny_passesOwn:=@PySem.wpAny_passesOwn
theorem abU:type_of% @List.flatten_cons:=@List.flatten_cons
theorem abV:type_of% @decide_eq_true_eq:=@decide_eq_true_eq
theorem abW:type_of% @PySem.F.slot_dict_update:=@PySem.F.slot_dict_update
theorem abX:type_of% @Nat.lt_trichotomy:=@Nat.lt_trichotomy
theorem abY:type_of% @List.range_succ:=@List.range_succ
theorem abZ:type_of% @List.reverse_cons:=@List.reverse_cons
theorem ab0:type_of% @List.length_filterMap_le:=@List.length_filterMap_le
theorem ab1:type_of% @List.map_congr_left:=@List.map_congr_left
theorem ab2:type_of% @Nat.lt_succ_self:=@Nat.lt_succ_self
theorem ab3:type_of% @List.lookup_cons:=@List.lookup_cons
theorem ab4:type_of% @PySem.wpAny_call_entry:=@PySem.wpAny_call_entry
theorem ab5:type_of% @beq_iff_eq:=@beq_iff_eq
theorem ab6:type_of% @List.getElem?_drop:=@List.getElem?_drop
theorem ab7:type_of% @List.Nodup.sublist:=@List.Nodup.sublist
theorem ab8:type_of% @List.find?_cons:=@List.find?_cons
theorem ab9:type_of% @Option.map_some:=@Option.map_some
theorem ab_:type_of% @PySem.F.slot_dict_pop:=@PySem.F.slot_dict_pop
theorem aca:type_of% @PySem.wpAny_specialOf:=@PySem.wpAny_specialOf
theorem acb:type_of% @PySem.wpAny_ite_split:=@PySem.wpAny_ite_split
theorem acd:type_of% @PySem.wpAny_updateSeq:=@PySem.wpAny_updateSeq
theorem ace:type_of% @PySem.size_of_entries:=@PySem.size_of_entries
theorem acf:type_of% @List.take_sublist:=@List.take_sublist
theorem acg:type_of% @List.filter_cons:=@List.filter_cons
theorem ach:type_of% @List.not_mem_nil:=@List.not_mem_nil
theorem aci:type_of% @List.range'_succ:=@List.range'_succ
theorem acj:type_of% @List.drop_length:=@List.drop_length
theorem ack:type_of% @Sum.inr.inj:=@Sum.inr.inj
theorem acm:type_of% @Nat.sub_self:=@Nat.sub_self
theorem acn:type_of% @List.length_set:=@List.length_set
theorem aco:type_of% @Bool.or_eq_true:=@Bool.or_eq_true
theorem acp:type_of% @Nat.lt_trans:=@Nat.lt_trans
abbrev Qqq:=PySem.Value→PySem.Shared→Prop
abbrev Qqz:=List (PySem.Addr×PySem.Obj)
abbrev Qqx:=PySem.Str→Option PySem.Value
abbrev Qqy:=PySem.W.Frag
namespace L2
open PySem PySem.Spec PyProof.Rows
abbrev Key:=Sum Int Str
noncomputable def yX:Key→Value→Bool
 | .inl k,v=>Value.isInt k v
 | .inr x,v=>Value.isStrOf x v
noncomputable def V6(w:World):Key→Int
 | .inl k=>hashInt k
 | .inr x=>hashStr w x
theorem jt:∀{k:Key} {v:Value},yX k v=true→(∃i t,k=Sum.inl i∧v=Value.int i t)∨(∃x t,k=Sum.inr x∧v=Value.str x t)
 | .inl i,v,h=>by
  obtain⟨t,e⟩:=Value.isInt_shape (k:=i) (v:=v) h
  exact .inl ⟨i,t,rfl,e⟩
 | .inr x,v,h=>by
  obtain⟨t,e⟩:=Value.isStrOf_shape (x:=x) (v:=v) h
  exact .inr ⟨x,t,rfl,e⟩
theorem Hk(i:Int)(t:Tok):yX (.inl i) (.int i t)=true:=by simp[yX,Value.isInt]
theorem Hl(x:Str)(t:Tok):yX (.inr x) (.str x t)=true:=by simp[yX,Value.isStrOf]
theorem OC(a b:Int):decide ((Sum.inl a:Key)=Sum.inl b)=(a ==b):=by
 by_cases e:a=b
 ·subst e;simp
 ·have h:¬(Sum.inl a:Key)=Sum.inl b:=fun q=>e (Sum.inl.inj q)
  rw[Z6 h]
  exact(beq_eq_false_iff_ne.mpr e).symm
theorem OD(a b:Str):decide ((Sum.inr a:Key)=Sum.inr b)=decide (a=b):=by
 by_cases e:a=b
 ·subst e;simp
 ·have h:¬(Sum.inr a:Key)=Sum.inr b:=fun q=>e (ack q)
  rw[Z6 h,Z6 e]
theorem OE(a:Int)(b:Str):decide ((Sum.inl a:Key)=Sum.inr b)=false:=Z6 (fun q=>nomatch q)
theorem OF(a:Str)(b:Int):decide ((Sum.inr a:Key)=Sum.inl b)=false:=Z6 (fun q=>nomatch q)
noncomputable def jg(prog:Program)(w:World):PySem.KeyKind prog w Key where
 is:=yX
 hash:=V6 w
 inj:=fun v a b ha hb=>by
  rcases jt ha with⟨i,t,rfl,rfl⟩|⟨x,t,rfl,rfl⟩
  ·rcases jt hb with⟨j,u,rfl,e⟩|⟨y,u,rfl,e⟩
   ·injection e with e1 _;rw[e1]
   ·exact nomatch e
  ·rcases jt hb with⟨j,u,rfl,e⟩|⟨y,u,rfl,e⟩
   ·exact nomatch e
   ·injection e with e1 _;rw[e1]
 byValue:=fun k v h=>by
  rcases jt h with⟨i,t,rfl,rfl⟩|⟨x,t,rfl,rfl⟩<;>rfl
 pyHash:=fun hv h=>by
  rcases jt hv with⟨i,t,rfl,rfl⟩|⟨x,t,rfl,rfl⟩
  ·exact wpAny_pyHash_int h
  ·exact wpAny_pyHash_str h
 eqBool:=fun hu hv h=>by
  rcases jt hu with⟨i,t,rfl,rfl⟩|⟨x,t,rfl,rfl⟩
  ·rcases jt hv with⟨j,u,rfl,rfl⟩|⟨y,u,rfl,rfl⟩
   ·rw[OC] at h;exact wpAny_eqBool_int h
   ·rw[OE] at h;exact SeqAt.EqAt.int_str i t y u _ _ _ _ h
  ·rcases jt hv with⟨j,u,rfl,rfl⟩|⟨y,u,rfl,rfl⟩
   ·rw[OF] at h;exact SeqAt.EqAt.str_int x t j u _ _ _ _ h
   ·rw[OD] at h;exact wpAny_eqBool_str h
 «strs»:=fun k x t v h=>by
  rcases jt h with⟨i,u,rfl,e⟩|⟨y,u,rfl,e⟩
  ·exact nomatch e
  ·injection e with e1 _
   subst e1
   cases v<;>rfl
theorem DV(prog:Program)(w:World)(i:Int)(t:Tok):(jg prog w).is (.inl i) (.int i t)=true:=Hk i t
theorem DW(prog:Program)(w:World)(x:Str)(t:Tok):(jg prog w).is (.inr x) (.str x t)=true:=Hl x t
inductive V where
 | jm|bl (b:Bool)|int (i:Int)|str (x:Str)|Fp (b:Array UInt8)|Nw (b:UInt64)|ref (a:Addr)|ty (n:String)
 deriving DecidableEq
def RelV:V→Value→Prop
 | .jm,u=>u=Value.none
 | .bl b,u=>u=Value.bool b
 | .int i,u=>∃t,u=Value.int i t
 | .str x,u=>∃t,u=Value.str x t
 | .Fp b,u=>∃t,u=Value.bytes b t
 | .Nw b,u=>∃t,u=Value.float b t
 | .ref a,u=>u=Value.ref a
 | .ty n,u=>u=Value.type n
abbrev Vals:List V→List Value→Prop:=Paired RelV
theorem Vals.length{xs:List V}{us:List Value}(r:Vals xs us):xs.length=us.length:=aaj r
theorem Vals.get:∀{xs:List V} {us:List Value} {i:Nat} {x:V},Vals xs us→xs[i]?=some x→∃u,us[i]?=some u∧RelV x u
 | _,_,_,_,.nil,e=>by simp at e
 | _,_,0,_,.cons r _,e=>by simp at e;subst e;exact⟨_,rfl,r⟩
 | _,_,i+1,x,.cons _ t,e=>by
  obtain⟨u,h1,h2⟩:=Vals.get (i:=i) (x:=x) t (by simpa using e)
  exact⟨u,by simpa using h1,h2⟩
theorem Vals.set{x:V}{u:Value}(r:RelV x u):∀{xs:List V} {us:List Value} (i:Nat),Vals xs us→Vals (xs.set i x) (us.set i u)
 | _,_,_,.nil=>.nil
 | _,_,0,.cons _ t=>.cons r t
 | _,_,i+1,.cons q t=>.cons q (Vals.set r i t)
theorem Vals.append:∀{xs ys:List V} {us ws:List Value},Vals xs us→Vals ys ws→Vals (xs++ys) (us++ws)
 | _,_,_,_,.nil,s=>s
 | _,_,_,_,.cons r t,s=>.cons r (Vals.append t s)
theorem Vals.take:∀{xs:List V} {us:List Value} (n:Nat),Vals xs us→Vals (xs.take n) (us.take n)
 | _,_,0,_=>.nil
 | _,_,_+1,.nil=>.nil
 | _,_,n+1,.cons r t=>.cons r (Vals.take n t)
theorem Vals.drop:∀{xs:List V} {us:List Value} (n:Nat),Vals xs us→Vals (xs.drop n) (us.drop n)
 | _,_,0,r=>r
 | _,_,_+1,.nil=>.nil
 | _,_,n+1,.cons _ t=>Vals.drop n t
def pG:Option V→Option Value→Prop
 | some v,some u=>RelV v u
 | none,none=>True
 | _,_=>False
def KV{κ:Type}:List (κ×V)→List (κ×Value)→Prop:=Paired fun(p:κ×V) (q:κ×Value)=>p.1=q.1∧RelV p.2 q.2
noncomputable def kV:Key→V
 | .inl i=>.int i
 | .inr x=>.str x
inductive HO where
 | lst (xs:List V)
 | tup (xs:List V)
 | dK (kvs:List (Key×V))|dT (kvs:List (List Key×V))
 | set (S:Int→Bool) (n:Nat)
 | ins (C dx:Addr) (fs:List (Str×V))
 | own (x:Addr)
 | xd (fs:List (Str×V))
 | met (f x:Addr)
 | IZ (lo hi:Int)
 | nq (o:Obj) (u:HO)
 | LC (ps:Array Value)
 | ext (φ:Heap→Prop)
abbrev Hp:=Addr→Option HO
noncomputable def upd(H:Hp)(a:Addr)(o:HO):Hp:=fun b=>if b=a then some o else H b
theorem b_{H:Hp}{a:Addr}{o:HO}:upd H a o a=some o:=by unfold upd;rw[aar rfl]
theorem e_{H:Hp}{a b:Addr}{o:HO}(h:b≠a):upd H a o b=H b:=by unfold upd;rw[aap h]
theorem LR{H:Hp}{a:Addr}{o u:HO}:upd (upd H a o) a u=upd H a u:=by
 funext b;unfold upd;split<;>rfl
theorem i7{H:Hp}{a b:Addr}{o u:HO}(h:H a=some o)(h':H b=some u)(d:o≠u):a≠b:=by
 intro e;subst e;rw[h] at h';exact d (aaA h')
theorem gh{H:Hp}{a b:Addr}{o:HO}(h:H a=some o)(h':H b=none):a≠b:=by
 intro e;subst e;rw[h] at h';cases h'
section
variable(P:Program)(w:World)
noncomputable def iY(H:Hp)(h:Heap)(a:Addr):HO→Prop
 | .lst xs=>xs.length≤sizeLine∧∃(h_:List Value)(n:Nat),Vals xs h_∧h.get? a=some {cls:=.type "list",data:=.seq h_.toArray n}
 | .tup xs=>xs.length≤sizeLine∧∃h_:List Value,Vals xs h_∧IsTup h a h_.toArray
 | .dK kvs=>kvs.length≤sizeLine∧(a ==sysModules)=false∧∃vs,KV kvs vs∧h.DictOf (jg P w) a vs
 | .dT kvs=>kvs.length≤sizeLine∧(a ==sysModules)=false∧∃xs:List (List Key×Addr×Value),
  Paired (fun(p:List Key×V) (q:List Key×Addr×Value)=>p.1=q.1∧H q.2.1=some (.tup (p.1.map kV))∧RelV p.2 q.2.2) kvs xs∧
  ∃o es ep,h.get? a=some o∧o.ExactDict∧o.data=.dict es ep∧es.toList=xs.map (entryOfKey (tupleKind (jg P w)))∧(xs.map (·.1)).Nodup
 | .set S n=>h.SetOf (intKind P w) a S n
 | .ins C dx fs=>H dx=some (.own a)∧fs.length≤1000∧dx≠a∧h.get? a=some (W.instObj C dx)∧
  ∃mA,h.Ns1 dx mA∧(∀f,pG (fs.lookup f) (mA f))∧PySem.Within mA (fs.map (·.1))
 | .own _=>∃o,h.get? a=some o
 | .xd fs=>∃mA,h.Ns1 a mA∧∀f,pG (fs.lookup f) (mA f)
 | .IZ lo hi=>∃t u v,h.get? a=some {cls:=.type "range",data:=.fields #[.int lo t,.int hi u,.int 1 v]}
 | .nq o u=>h.get? a=some o∧iY H h a u
 | .LC ps=>h.get? a=some {cls:=.none,data:=.fields ps}
 | .met f x=>h.get? a=some (W.methodObj (.ref f) (.ref x))
 | .ext φ=>φ h∧(∃o,h.get? a=some o)∧∀h1 h2:Heap,φ h1→(∀o,h1.get? a=some o→h2.get? a=some o)→φ h2
def rC(H:Hp)(h:Heap):Prop:=∀a o,H a=some o→iY P w H h a o
end
section
variable{P:Program}{w:World}{H H':Hp}{h h':Heap}{a:Addr}{o:HO}
theorem iY.lt(x:iY P w H h a o):a<h.objs.size:=by
 cases o with
 | lst xs=>obtain⟨_,_,_,_,e⟩:=x;exact aau e
 | tup xs=>obtain⟨_,_,_,p⟩:=x;exact p.lt
 | dK kvs=>obtain⟨_,_,_,_,o,_,_,e,_⟩:=x;exact aau e
 | dT kvs=>obtain⟨_,_,_,_,o,_,_,e,_⟩:=x;exact aau e
 | set S n=>obtain⟨o,_,_,_,e,_⟩:=x;exact aau e
 | ins C dx fs=>obtain⟨_,_,_,e,_⟩:=x;exact aau e
 | own y=>obtain⟨_,e⟩:=x;exact aau e
 | xd fs=>obtain⟨_,⟨_,_,_,e,_⟩,_⟩:=x;exact aau e
 | IZ lo hi=>obtain⟨_,_,_,e⟩:=x;exact aau e
 | nq ob u=>obtain⟨e,_⟩:=x;exact aau e
 | LC ps=>exact aau (show h.get? a=some _ from x)
 | met f y=>exact aau (show h.get? a=some _ from x)
 | ext φ=>obtain⟨_,⟨_,e⟩,_⟩:=x;exact aau e
theorem Paired.kC{α β:Type}{F G:α→β→Prop}:∀{l₁:List α} {l₂:List β},Paired F l₁ l₂→(∀a b,F a b→G a b)→Paired G l₁ l₂
 | _,_,.nil,_=>.nil
 | _,_,.cons r t,f=>.cons (f _ _ r) (Paired.kC t f)
theorem iY.yY(x:iY P w H h a o)(k:∀b u,(b=a∨H b=some (.own a))→h.get? b=some u→h'.get? b=some u)
  (ho:∀b,H b=some (.own a)→H' b=some (.own a)) (ht:∀b xs,H b=some (.tup xs)→H' b=some (.tup xs)):iY P w H' h' a o:=by
 induction o with
 | lst xs=>obtain⟨z,h_,n,r,e⟩:=x;exact⟨z,h_,n,r,k _ _ (.inl rfl) e⟩
 | tup xs=>obtain⟨z,h_,r,ob,e,c⟩:=x;exact⟨z,h_,r,ob,k _ _ (.inl rfl) e,c⟩
 | dK kvs=>obtain⟨z,y,vs,r,ob,es,ep,e,c⟩:=x;exact⟨z,y,vs,r,ob,es,ep,k _ _ (.inl rfl) e,c⟩
 | dT kvs=>
  obtain⟨z,y,xs,r,ob,es,ep,e,c⟩:=x
  exact⟨z,y,xs,Paired.kC r fun p q z=>⟨z.1,ht _ _ z.2.1,z.2.2⟩,ob,es,ep,k _ _ (.inl rfl) e,c⟩
 | set S n=>obtain⟨ob,es,ep,t,e,c⟩:=x;exact⟨ob,es,ep,t,k _ _ (.inl rfl) e,c⟩
 | ins C dx fs=>
  obtain⟨d,z,ne,e,mA,⟨od,es,ep,e2,c⟩,r⟩:=x
  exact⟨ho _ d,z,ne,k _ _ (.inl rfl) e,mA,⟨od,es,ep,k _ _ (.inr d) e2,c⟩,r⟩
 | own y=>obtain⟨ob,e⟩:=x;exact⟨ob,k _ _ (.inl rfl) e⟩
 | xd fs=>obtain⟨mA,⟨od,es,ep,e,c⟩,r⟩:=x;exact⟨mA,⟨od,es,ep,k _ _ (.inl rfl) e,c⟩,r⟩
 | IZ lo hi=>obtain⟨t,u,v,e⟩:=x;exact⟨t,u,v,k _ _ (.inl rfl) e⟩
 | nq ob u ih=>obtain⟨e,q⟩:=x;exact⟨k _ _ (.inl rfl) e,ih q⟩
 | LC ps=>
  have e:h.get? a=some {cls:=.none,data:=.fields ps}:=x
  show h'.get? a=some {cls:=.none,data:=.fields ps}
  exact k a _ (.inl rfl) e
 | met f y=>
  have e:h.get? a=some (W.methodObj (.ref f) (.ref y)):=x
  show h'.get? a=some (W.methodObj (.ref f) (.ref y))
  exact k a _ (.inl rfl) e
 | ext φ=>obtain⟨p,⟨o,e⟩,st⟩:=x;exact⟨st _ _ p fun o q=>k _ _ (.inl rfl) q,⟨o,k _ _ (.inl rfl) e⟩,st⟩
theorem rC.lt(x:rC P w H h)(e:H a=some o):a<h.objs.size:=(x a o e).lt
theorem rC.fresh(x:rC P w H h)(e:h.objs.size≤a):H a=none:=by
 cases q:H a with
 | none=>rfl
 | some u=>exact absurd (aaD (x.lt q) e) (abg _)
theorem rC.kept(x:rC P w H h)(k:∀b u,h.get? b=some u→h'.get? b=some u):rC P w H h':=fun a o e=>
 (x a o e).yY (fun b u _ q=>k b u q) (fun _ q=>q) fun _ _ q=>q
theorem rC.laid(x:rC P w H h)(k:∀b u,h.get? b=some u→h'.get? b=some u)(hp:h.objs.size≤a)(new:iY P w (upd H a o) h' a o):rC P w (upd H a o) h':=fun b u e=>by
 have hn:=x.fresh hp
 by_cases hb:b=a
 ·subst hb;rw[b_] at e;cases e;exact new
 ·rw[e_ hb] at e
  exact(x b u e).yY (fun c v _ q=>k c v q) (fun c q=>by rw[e_ (gh q hn)];exact q) fun c xs q=>by rw[e_ (gh q hn)];exact q
end
def Rd(H:Hp)(a:Addr)(u:HO):Prop:=H a=some u∨∃o,H a=some (.nq o u)
theorem Rd.ok{P:Program}{w:World}{H:Hp}{h:Heap}{a:Addr}{u:HO}(r:Rd H a u)(x:rC P w H h):iY P w H h a u:=by
 rcases r with r|⟨o,r⟩
 ·exact x a u r
 ·obtain⟨_,q⟩:=x a _ r
  exact q
def Nx:Option HO→Prop
 | some (.lst _)=>True
 | some (.dK _)=>True
 | some (.dT _)=>True
 | some (.set _ _)=>True
 | some (.ins _ _ _)=>True
 | some (.ext _)=>True
 | _=>False
section
variable{P:Program}{w:World}{H:Hp}{h h':Heap}{x e:Addr}{o':HO}
theorem rC.write(ok:rC P w H h)(mu:Nx (H x))(he:e=x∨H e=some (.own x))(k:∀b u,b≠e→h.get? b=some u→h'.get? b=some u)(K2:∃u,h'.get? e=some u)
  (new:iY P w (upd H x o') h' x o'):rC P w (upd H x o') h':=fun b u q=>by
 have Tf:∀c y,H c=some (.own y)→c≠x:=fun c y r z=>by subst z;rw[r] at mu;exact mu
 have W5:∀c xs,H c=some (.tup xs)→c≠x:=fun c xs r z=>by subst z;rw[r] at mu;exact mu
 by_cases hb:b=x
 ·subst hb;rw[b_] at q;cases q;exact new
 ·rw[e_ hb] at q
  by_cases Qm:b=e
  ·have q':H b=some (.own x):=by
    rcases he with z|z
    ·exact absurd (Qm.trans z) hb
    ·rw[Qm];exact z
   rw[q] at q';cases q'
   obtain⟨v,hv⟩:=K2
   exact⟨v,by rw[Qm];exact hv⟩
  ·refine(ok b u q).yY (fun c v hc r=>k c v ?_ r) (fun c r=>by rw[e_ (Tf c b r)];exact r) fun c xs r=>by rw[e_ (W5 c xs r)];exact r
   rcases hc with rfl|hc
   ·exact Qm
   ·rintro rfl
    rcases he with z|z
    ·exact Tf c b hc z
    ·rw[hc] at z;cases z;exact hb rfl
end
structure Un(fs ex:List Addr)(H H':Hp)(h h':Heap):Prop where
 keep:∀b o,h.get? b=some o→H b=none→b∉fs→b∉ex→h'.get? b=some o
 slot:∀b o,h.get? b=some o→H b=none→b∈fs→b∉ex→∃sl,h'.get? b=some {o with slots:=sl}
 free:∀b o,h.get? b=some o→H b=none→b∉ex→H' b=none
 there:∀b o,h.get? b=some o→b∉ex→∃o',h'.get? b=some o'
 rD:∀b xs,H b=some (.tup xs)→H' b=some (.tup xs)
 uP:∀b o u,H b=some (.nq o u)→H' b=some (.nq o u)
 yt:∀b ps,H b=some (.LC ps)→∃more,H' b=some (.LC (ps++more))
section
variable{fs fs' ex ex':List Addr}{H H1 H2:Hp}{h h1 h2 h':Heap}{a x e:Addr}{o:HO}
theorem Un.any(u:Un fs ex H H1 h h1){b:Addr}{ob:Obj}(q:h.get? b=some ob)(n:H b=none)(hx:b∉ex):∃sl,h1.get? b=some {ob with slots:=sl}:=by
 by_cases hb:b∈fs
 ·exact u.slot b ob q n hb hx
 ·exact⟨ob.slots,u.keep b ob q n hb hx⟩
theorem Un.kept(k:∀b u,h.get? b=some u→h'.get? b=some u):Un fs ex H H h h':=
 ⟨fun b ob q _ _ _=>k b ob q,fun b ob q _ _ _=>⟨ob.slots,k b ob q⟩,fun _ _ _ n _=>n,fun b ob q _=>⟨ob,k b ob q⟩,fun _ _ q=>q,fun _ _ _ q=>q,fun _ ps q=>⟨#[],by rw[q];simp⟩⟩
theorem Un.refl:Un fs ex H H h h:=Un.kept fun _ _ q=>q
theorem Un.laid(k:∀b u,h.get? b=some u→h'.get? b=some u)(hp:h.objs.size≤a)(hn:H a=none):Un fs ex H (upd H a o) h h' where
 keep:=fun b u q _ _ _=>k b u q
 slot:=fun b u q _ _ _=>⟨u.slots,k b u q⟩
 free:=fun b u q n _=>by rw[e_ (aaU (aaD (aau q) hp))];exact n
 there:=fun b u q _=>⟨u,k b u q⟩
 rD:=fun b xs q=>by rw[e_ (gh q hn)];exact q
 uP:=fun b u xs q=>by rw[e_ (gh q hn)];exact q
 yt:=fun b ps q=>⟨#[],by rw[e_ (gh q hn),q];simp⟩
theorem Un.write(mu:Nx (H x))(he:e=x∨H e=some (.own x))(k:∀b u,b≠e→h.get? b=some u→h'.get? b=some u)(K2:∃u,h'.get? e=some u):Un fs ex H (upd H x o) h h':=by
 have hx:∀b,H b=none→b≠x:=fun b n z=>by subst z;rw[n] at mu;exact mu
 have hb:∀b,H b=none→b≠e:=fun b n z=>by
  subst z
  rcases he with r|r
  ·exact hx b n r
  ·rw[n] at r;cases r
 have hm:∀b u,H b=some u→¬Nx (some u)→b≠x:=fun b u q nm z=>by subst z;rw[q] at mu;exact nm mu
 refine⟨fun b u q n _ _=>k b u (hb b n) q,fun b u q n _ _=>⟨u.slots,k b u (hb b n) q⟩,fun b u q n _=>by rw[e_ (hx b n)];exact n,fun b u q _=>?_,
  fun b xs q=>by rw[e_ (hm b _ q fun z=>z)];exact q,fun b u xs q=>by rw[e_ (hm b _ q fun z=>z)];exact q,fun b ps q=>⟨#[],by rw[e_ (hm b _ q fun z=>z),q];simp⟩⟩
 by_cases Qm:b=e
 ·subst Qm;exact K2
 ·exact⟨u,k b u Qm q⟩
end
noncomputable def U6(h:Heap)(H:Hp):List Addr:=(List.range h.objs.size).filter fun a=>(H a).isSome
noncomputable def B_(h:Heap)(H:Hp):Heap:=W.hideAll h (U6 h H)
theorem Hm(h:Heap)(H:Hp):(B_ h H).objs.size=h.objs.size:=W.hideAll_size _ _
theorem I_{h:Heap}{H:Hp}{b:Addr}{o:Obj}(e:h.get? b=some o)(n:H b=none):(B_ h H).get? b=some o:=
 W.hideAll_get _ e fun hm=>by
  have q:(H b).isSome=true:=(aao.mp hm).2
  rw[n] at q;simp at q
theorem LS{h:Heap}{H:Hp}{b:Addr}{o:Obj}(e:(B_ h H).get? b=some o):h.get? b=some o∧H b=none:=by
 have e':h.get? b=some o:=W.of_hideAll (U6 h H) e
 refine⟨e',?_⟩
 cases q:H b with
 | none=>rfl
 | some x=>
  have hm:b∈U6 h H:=aao.mpr ⟨aaX.mpr (aau e'),by simp[q]⟩
  have z:(B_ h H).get? b=none:=W.hideAll_none (U6 h H) hm
  rw[z] at e;cases e
def LU(g h:Heap)(L:Addr):Qqz:=(List.range h.objs.size).filterMap fun a=>if a=L∨(g.get? a).isSome=true then none else(h.get? a).map fun o=>(a,o)
def rest(g h:Heap)(L d:Addr):Qqz:=(LU g h L).filter fun p=>decide (p.1≠d)
structure Mod(K:Qqy)(mg:Qqx)(base:Heap):Prop where
 Q4:K.In base
 glob:base.Ns mainGlobals mg
 blt:∃mb,base.Ns builtinsNs mb∧∀x:Str,x≠"__name__"→mb x=bootBuiltins x
 nolimit:base.NoLimit
structure Cx where
 prog:Program
 w:World
 K:Qqy
 mg:Qqx
 base:Heap
 A:Around
 N:List Str
 s₀:Shared
 H₀:Hp
 env:Env
 outer:List Env
 stack:List Env
 ex:List Addr
 fn:Str→Bool
 calm:Bool
 pn:Qqz
 xe:Qqq
noncomputable def ue(l:List Env):List Addr:=l.filterMap (·.frame)
noncomputable abbrev Cx.fs(X:Cx):List Addr:=ue X.outer
def V7(sc:Scope)(x:Str):Prop:=sc.names.lookup x=some .local∨sc.names.lookup x=some .cell∨sc.names.lookup x=some .free
def Loc(sc:Scope)(x:Str):Prop:=sc.names.lookup x=some .local∨sc.names.lookup x=some .cell
def Look(env:Env)(h:Heap)(m:Qqx)(x:Str)(u:Value):Prop:=
 (env.kindOf x=some .local∧m x=some u)∨((env.kindOf x=some .cell∨env.kindOf x=some .free)∧∃c,env.cells.lookup x=some c∧h.IsCell c (some u))
structure Cx.Ok(X:Cx):Prop where
 mod:Mod X.K X.mg X.base
 kind:X.env.scope.kind=.function
 glob:X.env.globals=mainGlobals
 blt:X.env.builtins=builtinsNs
 above:X.s₀.heap.objs.size≤X.env.locals
 inj:∀x y c,X.env.cells.lookup x=some c→X.env.cells.lookup y=some c→x=y
 has:∀x,(X.env.kindOf x=some .cell∨X.env.kindOf x=some .free)→∃c,X.env.cells.lookup x=some c
 Q5:∀x c,X.fn x=true→X.env.cells.lookup x=some c→X.s₀.heap.objs.size≤c
 hd:X.calm=true→X.A.handled=none
 frames:X.A.frames=some X.stack
 RO:X.stack=X.outer∨(X.stack=X.env::X.outer∧X.env.frame=some X.env.locals)
 V8:∀b∈X.ex,b≠X.env.locals∧∀x c,X.env.cells.lookup x=some c→c≠b
 bs:∀b o,X.base.get? b=some o→X.s₀.heap.get? b=some o∧X.H₀ b=none
 LV:X.base.objs.size≤X.s₀.heap.objs.size
 tI:∀b o,X.base.get? b=some o→b∉X.ex
 Ja:∀b∈X.ex,b∉X.fs
 uQ:X.s₀.heap.FunFrames X.base X.outer
 Ny:∀b∈X.fs,X.H₀ b=none
structure Inv(X:Cx)(c_:Qqz)(σ:List (Option V))(H:Hp)(s:Shared):Prop where
 ok:X.Ok
 os:s.os=X.s₀.os
 bare:AllBare s.gens
 base:Un X.fs X.ex X.H₀ H X.s₀.heap s.heap
 loc:∃m,s.heap.Ns X.env.locals m∧∀(i:Nat)(x:Str)(v:V),X.N[i]?=some x→σ[i]?=some (some v)→V7 X.env.scope x→∃u,RelV v u∧Look X.env s.heap m x u
 cell:∀x c,X.env.cells.lookup x=some c→∃v,s.heap.IsCell c v
 free:H X.env.locals=none
 pH:∀x c,X.env.cells.lookup x=some c→H c=none
 pin:∀p∈X.pn++c_,s.heap.get? p.1=some p.2∧H p.1=none∧p.1≠X.env.locals∧p.1∉X.fs∧∀v,p.2.data≠.cell v
 iH:rC X.prog X.w H s.heap
 len:σ.length=X.N.length
section
variable{X:Cx}{c_:Qqz}{σ:List (Option V)}{H H':Hp}{s:Shared}{h':Heap}
theorem Cx.Ok.LW(ok:X.Ok){b:Addr}{o:Obj}(e:X.base.get? b=some o):b∉X.fs:=fun hb=>by
 have:=(ok.uQ.mem hb).1
 rw[e] at this;cases this
theorem Inv.bs(I:Inv X c_ σ H s):∀b o,X.base.get? b=some o→s.heap.get? b=some o∧H b=none:=fun b o e=>
 ⟨I.base.keep b o (I.ok.bs b o e).1 (I.ok.bs b o e).2 (I.ok.LW e) (I.ok.tI b o e),I.base.free b o (I.ok.bs b o e).1 (I.ok.bs b o e).2 (I.ok.tI b o e)⟩
theorem Inv.bk(I:Inv X c_ σ H s):∀b o,X.base.get? b=some o→s.heap.get? b=some o:=fun b o e=>(I.bs b o e).1
theorem Inv.mod(I:Inv X c_ σ H s):Mod X.K X.mg X.base:=I.ok.mod
theorem Inv.xo(I:Inv X c_ σ H s):X.K.In s.heap:=I.ok.mod.Q4.keeps I.bk
theorem Inv.lt(I:Inv X c_ σ H s):X.env.locals<s.heap.objs.size:=let ⟨_,hn,_⟩:=I.loc;hn.lt
theorem Inv.sz(I:Inv X c_ σ H s):X.s₀.heap.objs.size≤s.heap.objs.size:=XI I.ok.above (Nat.le_of_lt I.lt)
theorem Inv.RP(I:Inv X c_ σ H s){a:Addr}(h:s.heap.objs.size≤a):a∉X.fs:=fun hb=>by
 obtain⟨_,o,ho,_⟩:=I.ok.uQ.mem hb
 exact absurd (aaD (aau ho) (XI I.sz h)) (abg _)
theorem Inv.OG(I:Inv X c_ σ H s):∀x c,X.env.cells.lookup x=some c→c≠X.env.locals:=fun x c e z=>by
 obtain⟨v,o,ho,hd⟩:=I.cell x c e
 obtain⟨m,⟨o',es,ep,qh,W6,_⟩,_⟩:=I.loc
 rw[z,qh] at ho;cases ho;rw[W6] at hd;cases hd
theorem Inv.uQ(I:Inv X c_ σ H s):s.heap.FunFrames X.base X.outer:=by
 have all:∀(l:List Env),(∀b∈ue l,b∈X.fs)→X.s₀.heap.FunFrames X.base l→s.heap.FunFrames X.base l:=by
  intro l
  induction l with
  | nil=>intro _ _;trivial
  | cons env r ih=>
   intro hs hl
   obtain⟨hk,⟨L,o,hf,hn,ho,hd⟩,hr⟩:=hl
   have hL:L∈X.fs:=hs L (by unfold ue;rw[abq,hf];exact aal)
   obtain⟨sl,e⟩:=I.base.slot L o ho (I.ok.Ny L hL) hL fun z=>I.ok.Ja L z hL
   exact⟨hk,⟨L,_,hf,hn,e,hd⟩,ih (fun b hb=>hs b (by unfold ue;rw[abq,hf];exact aae _ hb)) hr⟩
 exact all X.outer (fun _ hb=>hb) I.ok.uQ
theorem Inv.stack(I:Inv X c_ σ H s):s.heap.FunFrames X.base X.stack:=by
 rcases I.ok.RO with e|⟨e,hf⟩
 ·rw[e];exact I.uQ
 ·rw[e]
  obtain⟨m,hn,_⟩:=I.loc
  refine .cons (by rw[I.ok.kind];decide) hf hn ?_ I.uQ
  exact Heap.get?_none_of_le (XI I.ok.LV I.ok.above)
theorem Inv.wg(I:Inv X c_ σ H s):∀b∈ue X.stack,b∈X.env.locals::X.fs:=fun b hb=>by
 rcases I.ok.RO with e|⟨e,hf⟩
 ·rw[e] at hb;exact aae _ hb
 ·rw[e] at hb
  unfold ue at hb
  rw[abq,hf] at hb
  exact hb
theorem Inv.Ca(I:Inv X c_ σ H s):∀b∈ue X.stack,H b=none:=fun b hb=>by
 rcases Z8.mp (I.wg b hb) with e|hb
 ·rw[e];exact I.free
 ·obtain⟨_,o,ho,_⟩:=I.ok.uQ.mem hb
  exact I.base.free b o ho (I.ok.Ny b hb) fun z=>I.ok.Ja b z hb
theorem Inv.step{g':Array GenState}{t':Nat}{d':Drawn}{ch:List Addr}(I:Inv X c_ σ H s)
  (DP:∀b∈ch,(b∈X.ex∨X.s₀.heap.objs.size≤b)∧b≠X.env.locals∧(∀x c,X.env.cells.lookup x=some c→c≠b)∧∀p∈X.pn++c_,p.1≠b)
  (keep:∀b o,b≠X.env.locals→b∉X.fs→b∉ch→s.heap.get? b=some o→H b=none→h'.get? b=some o)
  (slot:∀b o,b≠X.env.locals→b∈X.fs→b∉ch→s.heap.get? b=some o→H b=none→∃sl,h'.get? b=some {o with slots:=sl}) (free:∀b o,b∉ch→s.heap.get? b=some o→H b=none→H' b=none)
  (there:∀b o,b∉ch→s.heap.get? b=some o→∃o',h'.get? b=some o')
  (rD:∀b xs,H b=some (.tup xs)→H' b=some (.tup xs)) (uP:∀b o u,H b=some (.nq o u)→H' b=some (.nq o u)) (yt:∀b ps,H b=some (.LC ps)→∃more,H' b=some (.LC (ps++more)))
  (ns:∀m,s.heap.Ns X.env.locals m→h'.Ns X.env.locals m) (iH:rC X.prog X.w H' h') (hg:AllBare g') :
  Inv X c_ σ H' {s with heap:=h',gens:=g',drawn:=d',toks:=t'}:=by
 have neL:∀b o,X.s₀.heap.get? b=some o→b≠X.env.locals:=fun b o e=>aaU (aaD (aau e) I.ok.above)
 have Vd:∀b o,X.s₀.heap.get? b=some o→b∉X.ex→b∉ch:=fun b o e hx hb=>by
  rcases(DP b hb).1 with z|z
  ·exact hx z
  ·exact absurd (aaD (aau e) z) (abg _)
 have cellK:∀x c,X.env.cells.lookup x=some c→∀v,s.heap.IsCell c v→h'.IsCell c v:=fun x c e v ⟨o,ho,hd⟩=>by
  have Tg:c∉ch:=fun z=>(DP c z).2.2.1 x c e rfl
  by_cases hc:c∈X.fs
  ·obtain⟨sl,q⟩:=slot c o (I.OG x c e) hc Tg ho (I.pH x c e)
   exact⟨_,q,hd⟩
  ·exact⟨o,keep c o (I.OG x c e) hc Tg ho (I.pH x c e),hd⟩
 refine⟨I.ok,I.os,hg,⟨fun b o e n hb hx=>?_,fun b o e n hb hx=>?_,fun b o e n hx=>?_,fun b o e hx=>?_,fun b xs e=>rD b xs (I.base.rD b xs e),fun b o xs e=>uP b o xs (I.base.uP b o xs e),fun b ps e=>?_⟩,?_,fun x c e=>?_,?_,fun x c e=>?_,fun p hp=>?_,iH,I.len⟩
 ·exact keep b o (neL b o e) hb (Vd b o e hx) (I.base.keep b o e n hb hx) (I.base.free b o e n hx)
 ·obtain⟨sl,e1⟩:=I.base.slot b o e n hb hx
  obtain⟨sl',e2⟩:=slot b _ (neL b o e) hb (Vd b o e hx) e1 (I.base.free b o e n hx)
  exact⟨sl',e2⟩
 ·obtain⟨o',e1⟩:=I.base.there b o e hx
  exact free b o' (Vd b o e hx) e1 (I.base.free b o e n hx)
 ·obtain⟨o',e1⟩:=I.base.there b o e hx
  exact there b o' (Vd b o e hx) e1
 ·obtain⟨m1,e1⟩:=I.base.yt b ps e
  obtain⟨m2,e2⟩:=yt b _ e1
  exact⟨m1++m2,by rw[e2,Array.append_assoc]⟩
 ·obtain⟨m,hn,hl⟩:=I.loc
  refine⟨m,ns m hn,fun i x v e1 e2 e3=>?_⟩
  obtain⟨u,r,l⟩:=hl i x v e1 e2 e3
  refine⟨u,r,?_⟩
  rcases l with l|⟨k,c,e,z⟩
  ·exact .inl l
  ·exact .inr ⟨k,c,e,cellK x c e _ z⟩
 ·obtain⟨v,z⟩:=I.cell x c e
  exact⟨v,cellK x c e v z⟩
 ·obtain⟨m,⟨o,_,_,ho,_⟩,_⟩:=I.loc
  exact free _ o (fun z=>(DP _ z).2.1 rfl) ho I.free
 ·obtain⟨v,o,ho,hd⟩:=I.cell x c e
  exact free c o (fun z=>(DP c z).2.2.1 x c e rfl) ho (I.pH x c e)
 ·obtain⟨e,n,ne,nf,d⟩:=I.pin p hp
  have Tg:p.1∉ch:=fun z=>(DP p.1 z).2.2.2 p hp rfl
  exact⟨keep p.1 p.2 ne nf Tg e n,free p.1 p.2 Tg e n,ne,nf,d⟩
theorem Inv.un{t':Nat}(I:Inv X c_ σ H s)(u:Un X.fs [] H H' s.heap h')(iH:rC X.prog X.w H' h'):Inv X c_ σ H' {s with heap:=h',toks:=t'}:=by
 obtain⟨m,⟨o,es,ep,ho,r⟩,_⟩:=id I.loc
 obtain⟨sl,hL⟩:=u.any ho I.free (by simp)
 exact I.step (g':=s.gens) (d':=s.drawn) (ch:=[]) (fun _ z=>nomatch z) (fun b o _ hb _ e n=>u.keep b o e n hb (by simp)) (fun b o _ hb _ e n=>u.slot b o e n hb (by simp)) (fun b o _ e n=>u.free b o e n (by simp)) (fun b o _ e=>u.there b o e (by simp)) u.rD u.uP u.yt (fun m' hm=>by
  obtain⟨o',Rh,NX,qh,r'⟩:=hm
  rw[ho] at qh;cases qh
  exact⟨_,Rh,NX,hL,r'⟩) iH I.bare
theorem Inv.call{g':Array GenState}{t':Nat}{d':Drawn}{ch:List Addr}(I:Inv X c_ σ H s)(u:Un (ue X.stack) ch H H' s.heap h')(iH:rC X.prog X.w H' h')(hg:AllBare g')
  (DP:∀b∈ch,(b∈X.ex∨X.s₀.heap.objs.size≤b)∧b≠X.env.locals∧(∀x c,X.env.cells.lookup x=some c→c≠b)∧∀p∈X.pn++c_,p.1≠b) :
  Inv X c_ σ H' {s with heap:=h',gens:=g',drawn:=d',toks:=t'}:=by
 obtain⟨m,⟨o,es,ep,ho,r⟩,_⟩:=id I.loc
 obtain⟨sl,hL⟩:=u.any ho I.free fun z=>(DP _ z).2.1 rfl
 exact I.step (ch:=ch) DP (fun b o hL hb hc e n=>u.keep b o e n (fun z=>(Z8.mp (I.wg b z)).elim hL hb) hc) (fun b o _ _ hc e n=>u.any e n hc) (fun b o hc e n=>u.free b o e n hc) (fun b o hc e=>u.there b o e hc) u.rD u.uP u.yt (fun m' hm=>by
  obtain⟨o',Rh,NX,qh,r'⟩:=hm
  rw[ho] at qh;cases qh
  exact⟨_,Rh,NX,hL,r'⟩) iH hg
theorem Inv.turned{t':Nat}{it:Addr}(I:Inv X c_ σ H s)(k:∀b o,b≠it→s.heap.get? b=some o→h'.get? b=some o)(hn:H it=none)(hL:it≠X.env.locals)
  (h1:it∈X.ex∨X.s₀.heap.objs.size≤it) (h2:∀x c,X.env.cells.lookup x=some c→c≠it) (h3:∀p∈X.pn++c_,p.1≠it):Inv X c_ σ H {s with heap:=h',toks:=t'}:=by
 have nit:∀b u,H b=some u→b≠it:=fun b u e z=>by rw[z,hn] at e;cases e
 refine I.step (g':=s.gens) (d':=s.drawn) (ch:=[it]) (fun b hb=>?_) (fun b o _ _ hc e _=>k b o (fun z=>hc (by simp[z])) e) (fun b o _ _ hc e _=>⟨o.slots,k b o (fun z=>hc (by simp[z])) e⟩) (fun _ _ _ _ n=>n)
  (fun b o hc e=>⟨o,k b o (fun z=>hc (by simp[z])) e⟩) (fun _ _ e=>e) (fun _ _ _ e=>e) (fun b ps e=>⟨#[],by rw[e];simp⟩) (fun m hm=>?_) (fun b u e=>?_) I.bare
 ·have e:b=it:=by simpa using hb
  subst e
  exact⟨h1,hL,h2,h3⟩
 ·obtain⟨o,es,ep,ho,r⟩:=hm
  exact⟨o,es,ep,k _ o (abK hL) ho,r⟩
 ·refine(I.iH b u e).yY (fun c v hc q=>k c v ?_ q) (fun _ q=>q) fun _ _ q=>q
  rcases hc with z|z
  ·rw[z];exact nit b u e
  ·exact nit c _ z
theorem Inv.tok(I:Inv X c_ σ H s)(t:Nat):Inv X c_ σ H {s with toks:=t}:=I.un (h':=s.heap) (t':=t) Un.refl I.iH
theorem Inv.kept{t':Nat}(I:Inv X c_ σ H s)(k:∀b u,s.heap.get? b=some u→h'.get? b=some u):Inv X c_ σ H {s with heap:=h',toks:=t'}:=I.un (Un.kept k) (I.iH.kept k)
theorem Inv.laid{a:Addr}{o:HO}{t':Nat}(I:Inv X c_ σ H s)(k:∀b u,s.heap.get? b=some u→h'.get? b=some u)(hp:s.heap.objs.size≤a)(new:iY X.prog X.w (upd H a o) h' a o) :
 Inv X c_ σ (upd H a o) {s with heap:=h',toks:=t'}:=I.un (Un.laid k hp (I.iH.fresh hp)) (I.iH.laid k hp new)
theorem Inv.write{x e:Addr}{o:HO}{t':Nat}(I:Inv X c_ σ H s)(mu:Nx (H x))(he:e=x∨H e=some (.own x))(k:∀b u,b≠e→s.heap.get? b=some u→h'.get? b=some u)(K2:∃u,h'.get? e=some u)
 (new:iY X.prog X.w (upd H x o) h' x o):Inv X c_ σ (upd H x o) {s with heap:=h',toks:=t'}:=I.un (Un.write mu he k K2) (I.iH.write mu he k K2 new)
theorem Inv.yL{NY:Qqz}(I:Inv X c_ σ H s)(h:∀p∈NY,s.heap.get? p.1=some p.2∧H p.1=none∧p.1≠X.env.locals∧p.1∉X.fs∧∀v,p.2.data≠.cell v):Inv X NY σ H s:=
 ⟨I.ok,I.os,I.bare,I.base,I.loc,I.cell,I.free,I.pH,fun p hp=>(Z3.mp hp).elim (fun z=>I.pin p (aas _ z)) (h p),I.iH,I.len⟩
theorem DX{N:List Str}(hN:N.Nodup){i j:Nat}{x:Str}(a:N[i]?=some x)(b:N[j]?=some x):i=j:=by
 obtain⟨h1,e1⟩:=List.getElem?_eq_some_iff.mp a
 obtain⟨h2,e2⟩:=List.getElem?_eq_some_iff.mp b
 exact(List.getElem_inj hN).mp (e1.trans e2.symm)
theorem Bu{M:Model}{A:Around}{E:Qqq}{i:Nat}{x:Str}{v:V}{u:Value}{Q:Unit→Shared→Prop}(I:Inv X c_ σ H s)(hN:X.N.Nodup)(hi:X.N[i]?=some x)(hx:Loc X.env.scope x)(r:RelV v u)
  (h:∀s',Inv X c_ (σ.set i (some v)) H s'→(∃a,Heap.SameBut a s.heap s'.heap∧(a=X.env.locals∨X.env.cells.lookup x=some a))→Q () s') (hf:X.fn x=true∨X.env.scope.names.lookup x=some .local:=by first|exact .inl rfl|exact .inr rfl|assumption):wpAny M A (storeName X.env x u) Q E s:=by
 obtain⟨m,hn,hl⟩:=id I.loc
 have W8:(X.env.scope.kind ==.class||(X.env.scope.kind ==.module&&X.env.locals != X.env.globals))=false:=by rw[I.ok.kind];rfl
 have hiσ:i<σ.length:=by rw[I.len];exact(List.getElem?_eq_some_iff.mp hi).1
 have OG:=I.OG
 have tracked:∀{a:Addr} {h':Heap},(∃o,s.heap.get? a=some o∧H a=none)→Heap.SameBut a s.heap h'→rC X.prog X.w H h':=fun{a h'} ha hs b ob e=>by
  obtain⟨_,_,yo⟩:=ha
  refine(I.iH b ob e).yY (fun c w' hc q=>(hs.2 c ?_).trans q) (fun _ q=>q) fun _ _ q=>q
  rintro rfl
  rcases hc with rfl|hc
  ·rw[yo] at e;cases e
  ·rw[yo] at hc;cases hc
 rcases hx with hk|hk
 ·refine wpAny_storeName_local hk hn (fun h' Ri hs=>?_) W8
  obtain⟨oL,_,_,hoL,_⟩:=id hn
  refine h _ ⟨I.ok,I.os,I.bare,⟨fun b o e n hb hx=>?_,fun b o e n hb hx=>?_,I.base.free,fun b o e hx=>?_,I.base.rD,I.base.uP,I.base.yt⟩,⟨_,Ri,fun j y v' e1 e2 e3=>?_⟩,fun y c e=>?_,I.free,I.pH,fun p hp=>?_,tracked ⟨oL,hoL,I.free⟩ hs,by simpa using I.len⟩ ⟨_,hs,.inl rfl⟩
  ·exact(hs.2 b (aaU (aaD (aau e) I.ok.above))).trans (I.base.keep b o e n hb hx)
  ·obtain⟨sl,e1⟩:=I.base.slot b o e n hb hx
   exact⟨sl,(hs.2 b (aaU (aaD (aau e) I.ok.above))).trans e1⟩
  ·obtain⟨o',e1⟩:=I.base.there b o e hx
   exact⟨o',(hs.2 b (aaU (aaD (aau e) I.ok.above))).trans e1⟩
  ·by_cases hj:j=i
   ·subst hj
    rw[hi] at e1;cases e1
    rw[abb hiσ] at e2
    cases e2
    exact⟨u,r,.inl ⟨hk,by simp⟩⟩
   ·rw[abi (abK hj)] at e2
    obtain⟨u',r',q⟩:=hl j y v' e1 e2 e3
    refine⟨u',r',?_⟩
    rcases q with⟨k,e⟩|⟨k,c,e,z⟩
    ·refine .inl ⟨k,?_⟩
     have:y≠x:=fun e=>hj (DX hN e1 (e▸hi))
     simp[this,e]
    ·exact .inr ⟨k,c,e,z.sameBut hs (OG y c e)⟩
  ·obtain⟨w',z⟩:=I.cell y c e
   exact⟨w',z.sameBut hs (OG y c e)⟩
  ·obtain⟨e,n,ne,nf,d⟩:=I.pin p hp
   exact⟨(hs.2 p.1 ne).trans e,n,ne,nf,d⟩
 ·have Na:X.fn x=true:=by
   rcases hf with z|z
   ·exact z
   ·rw[z] at hk;cases hk
  obtain⟨c,hc⟩:=I.ok.has x (.inl hk)
  obtain⟨w',z⟩:=I.cell x c hc
  refine wpAny_storeName_cell I.ok.kind hk hc z (fun h' B4 hs=>?_)
  obtain⟨oc,hoc,W9⟩:=id z
  refine h {s with heap:=h'} ⟨I.ok,I.os,I.bare,⟨fun b o e n hb hx=>?_,fun b o e n hb hx=>?_,I.base.free,fun b o e hx=>?_,I.base.rD,I.base.uP,I.base.yt⟩,⟨m,hn.sameBut hs (abK (OG x c hc)),fun j y v' e1 e2 e3=>?_⟩,fun y c' e=>?_,I.free,I.pH,fun p hp=>?_,tracked ⟨oc,hoc,I.pH x c hc⟩ hs,by simpa using I.len⟩ ⟨c,hs,.inr hc⟩
  ·exact(hs.2 b (aaU (aaD (aau e) (I.ok.Q5 x c Na hc)))).trans (I.base.keep b o e n hb hx)
  ·obtain⟨sl,e1⟩:=I.base.slot b o e n hb hx
   exact⟨sl,(hs.2 b (aaU (aaD (aau e) (I.ok.Q5 x c Na hc)))).trans e1⟩
  ·obtain⟨o',e1⟩:=I.base.there b o e hx
   exact⟨o',(hs.2 b (aaU (aaD (aau e) (I.ok.Q5 x c Na hc)))).trans e1⟩
  ·by_cases hj:j=i
   ·subst hj
    rw[hi] at e1;cases e1
    rw[abb hiσ] at e2
    cases e2
    exact⟨u,r,.inr ⟨.inl hk,c,hc,B4⟩⟩
   ·rw[abi (abK hj)] at e2
    obtain⟨u',r',q⟩:=hl j y v' e1 e2 e3
    refine⟨u',r',?_⟩
    rcases q with q|⟨k,c',e,z'⟩
    ·exact .inl q
    ·refine .inr ⟨k,c',e,z'.sameBut hs ?_⟩
     rintro rfl
     exact hj (DX hN e1 (I.ok.inj _ _ _ e hc▸hi))
  ·by_cases hcc:c'=c
   ·subst hcc;exact⟨_,B4⟩
   ·obtain⟨w2,z2⟩:=I.cell y c' e
    exact⟨w2,z2.sameBut hs hcc⟩
  ·obtain⟨e,n,ne,nf,d⟩:=I.pin p hp
   refine⟨(hs.2 p.1 ?_).trans e,n,ne,nf,d⟩
   intro q
   rw[q,hoc] at e
   have q':oc=p.2:=aaA e
   exact d w' (by rw[←q'];exact W9)
theorem DY{M:Model}{A:Around}{E:Qqq}{i:Nat}{x:Str}{v:V}{u:Value}{Q:Unit→Shared→Prop}(I:Inv X c_ σ H s)(hN:X.N.Nodup)(hi:X.N[i]?=some x)(hx:Loc X.env.scope x)(r:RelV v u)
  (h:∀s',Inv X c_ (σ.set i (some v)) H s'→Q () s') (hf:X.fn x=true∨X.env.scope.names.lookup x=some .local:=by first|exact .inl rfl|exact .inr rfl|assumption):wpAny M A (storeName X.env x u) Q E s:=
 Bu I hN hi hx r (fun s' I' _=>h s' I') hf
theorem Inv.RQ{s':Shared}{ch:List Addr}(I:Inv X c_ σ H s)(ho:s'.os=s.os)(u:Un (ue X.stack) ch H H' s.heap s'.heap)(iH:rC X.prog X.w H' s'.heap)(hg:AllBare s'.gens)
  (DP:∀b∈ch,(b∈X.ex∨X.s₀.heap.objs.size≤b)∧b≠X.env.locals∧(∀x c,X.env.cells.lookup x=some c→c≠b)∧∀p∈X.pn++c_,p.1≠b):Inv X c_ σ H' s':=by
 obtain⟨h',g',d',t',o'⟩:=s'
 have e:o'=s.os:=ho
 subst e
 exact I.call (g':=g') (t':=t') (d':=d') u iH hg DP
end
abbrev XK:=Value→Option Addr→Hp→Prop
abbrev St:=List (Option V)
abbrev VK:=V→Hp→Prop
abbrev TE:=St→Hp→VK→Prop
abbrev TT:=St→Hp→(Bool→Hp→Prop)→Prop
abbrev TA:=St→Hp→(List V→Hp→Prop)→Prop
structure Ends where
 nx:St→Hp→Prop
 rt:VK
 bk:St→Hp→Prop:=fun _ _=>False
 ct:St→Hp→Prop:=fun _ _=>False
abbrev TS:=Ends→St→Hp→Prop
def EP(X:Cx)(c_:Qqz)(σ:St)(Q:VK)(u:Value)(s':Shared):Prop:=∃v H',Inv X c_ σ H' s'∧RelV v u∧Q v H'
def TP(X:Cx)(c_:Qqz)(σ:St)(Q:Bool→Hp→Prop)(b:Bool)(s':Shared):Prop:=∃H',Inv X c_ σ H' s'∧Q b H'
def AP(X:Cx)(c_:Qqz)(σ:St)(Q:List V→Hp→Prop)(us:List Value)(s':Shared):Prop:=∃vs H',Inv X c_ σ H' s'∧Vals vs us∧Q vs H'
def SP(X:Cx)(c_:Qqz)(D:Ends)(f:Flow)(s':Shared):Prop:=
 match f with
 | .next=>∃σ' H',Inv X c_ σ' H' s'∧D.nx σ' H'
 | .brk=>∃σ' H',Inv X c_ σ' H' s'∧D.bk σ' H'
 | .cont=>∃σ' H',Inv X c_ σ' H' s'∧D.ct σ' H'
 | .ret u=>∃v σ' H',Inv X c_ σ' H' s'∧RelV v u∧D.rt v H'
def PE(X:Cx)(e:Expr)(t:TE):Prop:=
 ∀(c_:Qqz)(s:Shared)(σ:St)(H:Hp)(Q:VK),Inv X c_ σ H s→t σ H Q→wpAny (model X.prog X.w) X.A (eval e X.env) (EP X c_ σ Q) X.xe s
def PT(X:Cx)(e:Expr)(t:TT):Prop:=
 ∀(c_:Qqz)(s:Shared)(σ:St)(H:Hp)(Q:Bool→Hp→Prop),Inv X c_ σ H s→t σ H Q→wpAny (model X.prog X.w) X.A (isTrue e X.env (eval e X.env)) (TP X c_ σ Q) X.xe s
def PW(X:Cx)(e:Expr)(t:TT):Prop:=
 ∀(whole:Sem Value)(c_:Qqz)(s:Shared)(σ:St)(H:Hp)(Q:Bool→Hp→Prop),Inv X c_ σ H s→t σ H Q→wpAny (model X.prog X.w) X.A (isTrue e X.env whole) (TP X c_ σ Q) X.xe s
theorem PW.pt{X:Cx}{e:Expr}{t:TT}(h:PW X e t):PT X e t:=h _
def PA(X:Cx)(es:List Expr)(t:TA):Prop:=
 ∀(pos:Pos)(c_:Qqz)(s:Shared)(σ:St)(H:Hp)(Q:List V→Hp→Prop),Inv X c_ σ H s→t σ H Q→wpAny (model X.prog X.w) X.A (spliced (backTo pos (starEach es X.env))) (AP X c_ σ Q) X.xe s
def PS(X:Cx)(st:Stmt)(t:TS):Prop:=
 ∀(c_:Qqz)(s:Shared)(σ:St)(H:Hp)(D:Ends),Inv X c_ σ H s→t D σ H→wpAny (model X.prog X.w) X.A (exec st X.env) (SP X c_ D) X.xe s
def Fm(X:Cx)(st:List Stmt)(t:TS):Prop:=
 ∀(c_:Qqz)(s:Shared)(σ:St)(H:Hp)(D:Ends),Inv X c_ σ H s→t D σ H→wpAny (model X.prog X.w) X.A (execs st X.env) (SP X c_ D) X.xe s
theorem i6{α:Type}{t:Sem α}{Q Q':α→Shared→Prop}{M:Model}{A:Around}{E:Qqq}{s:Shared}(h:wpAny M A t Q E s)(hQ:∀a s,Q a s→Q' a s):wpAny M A t Q' E s:=abA h hQ fun _ _ x=>x
section
variable{X:Cx}
def RS(i:Nat):TE:=fun σ H Q=>∃v,σ[i]?=some (some v)∧Q v H
def tC(v:V):TE:=fun _ H Q=>Q v H
theorem OH{i:Nat}{x:Str}{pos:Pos}(hN:X.N[i]?=some x)(hv:V7 X.env.scope x)(hd:(x ==("__debug__":Str))=false:=by decide)(B5:(x ==("__classdict__":Str))=false:=by decide):PE X (.Name x pos) (RS i):=by
 intro c_ s σ H Q I h
 obtain⟨v,e,h⟩:=h
 obtain⟨m,hn,hl⟩:=I.loc
 obtain⟨u,r,l⟩:=hl i x v hN e hv
 have fin:EP X c_ σ Q u s:=⟨v,H,I,r,h⟩
 rcases l with⟨hk,hm⟩|⟨hk,c,hc,NZ⟩
 ·exact wpAny_Name (wpAny_loadName_local I.ok.kind hk hn hm fin) hd
 ·rcases hk with hk|hk
  ·exact wpAny_Name (wpAny_loadName_cell I.ok.kind hk hc NZ fin) hd
  ·exact wpAny_Name (wpAny_loadName_free I.ok.kind hk hc NZ fin B5) hd
theorem gc{i j pos}:PE X (.Constant (.int i) j pos) (tC (.int i)):=fun _ _ _ H _ I h=>wpAny_Constant_int ⟨.int i,H,I.tok _,⟨_,rfl⟩,h⟩
theorem j4{b j pos}:PE X (.Constant (.bool b) j pos) (tC (.bl b)):=fun _ _ _ H _ I h=>Constant_bool ⟨.bl b,H,I,rfl,h⟩
theorem uf{j pos}:PE X (.Constant .none j pos) (tC .jm):=fun _ _ _ H _ I h=>Constant_none ⟨.jm,H,I,rfl,h⟩
theorem i8{x j pos}:PE X (.Constant (.str x) j pos) (tC (.str x)):=fun _ _ _ H _ I h=>Calls.Constant_str ⟨.str x,H,I.tok _,⟨_,rfl⟩,h⟩
def Gl(X:Cx)(x:Str):Prop:=X.env.kindOf x=some .globalImplicit
theorem uR{E:Qqq}{c_:Qqz}{s:Shared}{σ:St}{H:Hp}{x:Str}{u:Value}{pos:Pos}{Q:Qqq}(I:Inv X c_ σ H s)(hg:Gl X x)(hm:X.mg x=some u)(h:Q u s)
  (hd:(x ==("__debug__":Str))=false:=by decide):wpAny (model X.prog X.w) X.A (eval (.Name x pos) X.env) Q E s:=
 Calls.Name_function_global I.ok.kind hg (Calls.loadGlobal_global (by rw[I.ok.glob];exact I.mod.glob.keeps I.bk) hm h) hd
theorem nN{E:Qqq}{c_:Qqz}{s:Shared}{σ:St}{H:Hp}{x:Str}{u:Value}{pos:Pos}{Q:Qqq}(I:Inv X c_ σ H s)(hg:Gl X x)(hm:X.mg x=none)(hv:bootBuiltins x=some u)(h:Q u s)
  (hn:x≠"__name__":=by decide) (hd:(x ==("__debug__":Str))=false:=by decide):wpAny (model X.prog X.w) X.A (eval (.Name x pos) X.env) Q E s:=by
 obtain⟨mb,h1,h2⟩:=I.mod.blt
 exact Calls.Name_function_global I.ok.kind hg (Calls.loadGlobal_builtin (by rw[I.ok.glob];exact I.mod.glob.keeps I.bk) hm (by rw[I.ok.blt];exact h1.keeps I.bk) ((h2 x hn).trans hv) h) hd
theorem Cb{x:Str}{v:V}{u:Value}{pos:Pos}(hg:Gl X x)(hm:X.mg x=some u)(r:RelV v u)(hd:(x ==("__debug__":Str))=false:=by decide):PE X (.Name x pos) (tC v):=
 fun _ _ _ H _ I h=>uR I hg hm ⟨v,H,I,r,h⟩ hd
theorem nE{x:Str}{v:V}{u:Value}{pos:Pos}(hg:Gl X x)(hm:X.mg x=none)(hv:bootBuiltins x=some u)(r:RelV v u)(hn:x≠"__name__":=by decide)(hd:(x ==("__debug__":Str))=false:=by decide):PE X (.Name x pos) (tC v):=
 fun _ _ _ H _ I h=>nN I hg hm hv ⟨v,H,I,r,h⟩ hn hd
variable{a b:Expr}{ta tb:TE}{pos:Pos}
def PC(X:Cx)(op:CmpOp)(a b:Expr)(t:TE):Prop:=
 ∀(c_:Qqz)(s:Shared)(σ:St)(H:Hp)(Q:VK),Inv X c_ σ H s→t σ H Q→
  wpAny (model X.prog X.w) X.A (eval a X.env) (fun v s₁=>wpAny (model X.prog X.w) X.A (eval b X.env) (fun u s₂=>wpAny (model X.prog X.w) X.A (compareOp op v u) (EP X c_ σ Q) X.xe s₂) X.xe s₁) X.xe s
theorem DZ(b:Expr){op:CmpOp}(h:op≠.In)(h2:op≠.NotIn):behindInMarks op b=false:=by
 have e1:(op ==CmpOp.In)=false:=by cases op<;>first|rfl|exact absurd rfl h
 have e2:(op ==CmpOp.NotIn)=false:=by cases op<;>first|rfl|exact absurd rfl h2
 cases b<;>simp[behindInMarks,e1,e2]
def RT(ta:TE):TE:=fun σ H Q=>ta σ H fun x H1=>Q (.bl (!decide (x=.jm))) H1
theorem RelV.Jb{x:V}{v:Value}(r:RelV x v):(v ==Value.none)=decide (x=.jm):=by
 cases x with
 | jm=>cases r;rfl
 | bl _=>cases r;rfl
 | int _=>obtain⟨t,rfl⟩:=r;rfl
 | str _=>obtain⟨t,rfl⟩:=r;rfl
 | Fp _=>obtain⟨t,rfl⟩:=r;rfl
 | Nw _=>obtain⟨t,rfl⟩:=r;rfl
 | ref _=>cases r;rfl
 | ty _=>cases r;rfl
theorem sZ{j pos'}(ha:PE X a ta):PC X .IsNot a (.Constant .none j pos') (RT ta):=by
 intro c_ s σ H Q I h
 refine i6 (ha c_ s σ H _ I h) fun v s1 iF=>?_
 obtain⟨x,H1,I1,r1,q1⟩:=iF
 exact Constant_none (isnot_none_gen ⟨.bl _,H1,I1,by rw[r1.Jb];rfl,q1⟩)
def tB(t:TE):TT:=fun σ H Q=>t σ H fun x H1=>∃c,x=.bl c∧Q c H1
theorem OI{op:CmpOp}{t:TE}(h:PC X op a b t)(h1:behindInMarks op b=false:=by first|exact DZ _ (by decide) (by decide)|rfl):PE X (.Compare a [op] [b] pos) t:=fun c_ s σ H Q I hw=>wpAny_Compare1 (h c_ s σ H Q I hw) h1
theorem i9{op:CmpOp}{t:TE}(h:PC X op a b t)(h1:behindInMarks op b=false:=by first|exact DZ _ (by decide) (by decide)|rfl):PT X (.Compare a [op] [b] pos) (tB t):=by
 intro c_ s σ H Q I hw
 refine wpAny_isTrue_Compare1 (i6 (h c_ s σ H _ I hw) fun v s1 h1=>i6 h1 fun u s2 h2=>i6 h2 fun c s3 iF=>?_) h1
 obtain⟨x,H1,I1,r1,q1⟩:=iF
 obtain⟨d,rfl,q⟩:=q1
 cases r1
 exact abv ⟨H1,I1,q⟩
theorem kr{e:Expr}{t:TE}(h:PE X e t)(he:∀whole,isTrue e X.env whole=(do let v ←whole;standAt e.pos;holding [v] (truthy v)):=by intro _;rfl):PT X e (tB t):=by
 intro c_ s σ H Q I hw
 refine isTrue_plain (i6 (h c_ s σ H _ I hw) fun v s1 iF=>?_) (he _)
 obtain⟨x,H1,I1,r1,q1⟩:=iF
 obtain⟨d,rfl,q⟩:=q1
 cases r1
 exact abv ⟨H1,I1,q⟩
variable{tA Ve:TT}{rest:List Expr}
def V9(t u:TT):TT:=fun σ H Q=>t σ H fun c H1=>if c=true then u σ H1 Q else Q false H1
def tOr(t u:TT):TT:=fun σ H Q=>t σ H fun c H1=>if c=true then Q true H1 else u σ H1 Q
def V_(t:TT):TT:=fun σ H Q=>t σ H fun c H1=>Q (!c) H1
theorem pw_and1(ha:PT X a tA):PW X (.BoolOp .And [a] pos) tA:=by
 intro wh c_ s σ H Q I h
 refine isTrue_and (i6 (ha c_ s σ H Q I h) fun c s1 e=>?_)
 cases c with
 | true=>exact isTrue_and_nil e
 | false=>exact e
theorem pw_or1(ha:PT X a tA):PW X (.BoolOp .Or [a] pos) tA:=by
 intro wh c_ s σ H Q I h
 refine isTrue_or (i6 (ha c_ s σ H Q I h) fun c s1 e=>?_)
 cases c with
 | false=>exact isTrue_or_nil e
 | true=>exact e
theorem pw_and(ha:PT X a tA)(hb:PW X (.BoolOp .And (b::rest) pos) Ve):PW X (.BoolOp .And (a::b::rest) pos) (V9 tA Ve):=by
 intro wh c_ s σ H Q I h
 refine isTrue_and (i6 (ha c_ s σ H _ I h) fun c s1 iF=>?_)
 obtain⟨H1,I1,q1⟩:=iF
 cases c with
 | true=>exact hb wh c_ s1 σ H1 Q I1 q1
 | false=>exact⟨H1,I1,q1⟩
theorem pw_or(ha:PT X a tA)(hb:PW X (.BoolOp .Or (b::rest) pos) Ve):PW X (.BoolOp .Or (a::b::rest) pos) (tOr tA Ve):=by
 intro wh c_ s σ H Q I h
 refine isTrue_or (i6 (ha c_ s σ H _ I h) fun c s1 iF=>?_)
 obtain⟨H1,I1,q1⟩:=iF
 cases c with
 | true=>exact⟨H1,I1,q1⟩
 | false=>exact hb wh c_ s1 σ H1 Q I1 q1
theorem jT(ha:PT X a tA):PT X (.UnaryOp .Not a pos) (V_ tA):=by
 intro c_ s σ H Q I h
 exact isTrue_not (ha c_ s σ H (fun c H1=>Q (!c) H1) I h)
def RU(ta tb:TE):TE:=fun σ H Q=>ta σ H fun x H1=>∃c,x=.bl c∧if c=true then tb σ H1 Q else Q (.bl false) H1
def RV(ta:TE):TE:=fun σ H Q=>ta σ H fun x H1=>∃c,x=.bl c∧Q (.bl (!c)) H1
theorem Jc{op}{t:TE}(h:PE X a t):PE X (.BoolOp op [a] pos) t:=fun c_ s σ H Q I hw=>BoolOp_one (h c_ s σ H Q I hw)
theorem Jd(ha:PE X a ta)(hb:PE X (.BoolOp .And (b::rest) pos) tb):PE X (.BoolOp .And (a::b::rest) pos) (RU ta tb):=by
 intro c_ s σ H Q I h
 refine BoolOp_and (i6 (ha c_ s σ H _ I h) fun v s1 iF=>?_)
 obtain⟨x,H1,I1,r1,q1⟩:=iF
 obtain⟨c,rfl,q1⟩:=q1
 cases r1
 refine abv ?_
 cases c with
 | true=>exact hb c_ s1 σ H1 Q I1 q1
 | false=>exact⟨.bl false,H1,I1,rfl,q1⟩
theorem OJ(ha:PE X a ta):PE X (.UnaryOp .Not a pos) (RV ta):=by
 intro c_ s σ H Q I h
 refine UnaryOp_ (i6 (ha c_ s σ H _ I h) fun v s1 iF=>?_)
 obtain⟨x,H1,I1,r1,q1⟩:=iF
 obtain⟨c,rfl,q1⟩:=q1
 cases r1
 exact not_of (abv ⟨.bl (!c),H1,I1,rfl,q1⟩)
end
def gH(K:Qqy)(H:Hp)(a:Addr)(xs:List V):Prop:=
 Rd H a (.lst xs)∨
  ∃(o:Obj)(h_:Array Value)(n:Nat),K.lookup a=some o∧o.cls=.type "list"∧o.dict=none∧o.data=.seq h_ n∧h_.size≤sizeLine∧Vals xs h_.toList
def rG(K:Qqy)(H:Hp)(a:Addr)(xs:List V):Prop:=
 Rd H a (.tup xs)∨
  ∃(o:Obj)(h_:Array Value)(n:Nat),K.lookup a=some o∧o.cls=.type "tuple"∧o.data=.seq h_ n∧h_.size≤sizeLine∧Vals xs h_.toList
noncomputable def Wa:Value→Option V
 | .none=>some .jm
 | .bool b=>some (.bl b)
 | .int i _=>some (.int i)
 | .str x _=>some (.str x)
 | .bytes b _=>some (.Fp b)
 | .float b _=>some (.Nw b)
 | .ref a=>some (.ref a)
 | .type n=>some (.ty n)
 | _=>none
theorem RelV.abs{x:V}{u:Value}(r:RelV x u):Wa u=some x:=by
 cases x with
 | jm=>cases r;rfl
 | bl _=>cases r;rfl
 | int _=>obtain⟨t,rfl⟩:=r;rfl
 | str _=>obtain⟨t,rfl⟩:=r;rfl
 | Fp _=>obtain⟨t,rfl⟩:=r;rfl
 | Nw _=>obtain⟨t,rfl⟩:=r;rfl
 | ref _=>cases r;rfl
 | ty _=>cases r;rfl
theorem RelV.inj{x y:V}{u:Value}(r:RelV x u)(q:RelV y u):x=y:=aaA (r.abs.symm.trans q.abs)
theorem Vals.inj:∀{xs ys:List V} {us:List Value},Vals xs us→Vals ys us→xs=ys
 | _,_,_,.nil,.nil=>rfl
 | _,_,_,.cons r t,.cons r' t'=>by rw[r.inj r',Vals.inj t t']
section
variable{X:Cx}{c_:Qqz}{σ:St}{H:Hp}{s:Shared}{a:Addr}{xs ys:List V}
theorem gH.of{K:Qqy}(h:H a=some (.lst xs)):gH K H a xs:=.inl (.inl h)
theorem rG.of{K:Qqy}(h:H a=some (.tup xs)):rG K H a xs:=.inl (.inl h)
theorem Inv.list(I:Inv X c_ σ H s)(h:gH X.K H a xs):∃h_:List Value,Vals xs h_∧PlainL s.heap a h_.toArray∧xs.length≤sizeLine:=by
 rcases h with h|⟨o,h_,n,hk,hc,hd,hs,hz,r⟩
 ·obtain⟨z,h_,n,r,e⟩:=h.ok I.iH
  exact⟨h_,r,⟨_,n,e,rfl,rfl,rfl⟩,z⟩
 ·refine⟨h_.toList,r,⟨o,n,I.xo a o hk,hc,hd,by simpa using hs⟩,?_⟩
  have e:=r.length
  simp only [abc] at e
  omega
theorem Inv.tuple(I:Inv X c_ σ H s)(h:rG X.K H a xs):∃h_:List Value,Vals xs h_∧IsTup s.heap a h_.toArray∧xs.length≤sizeLine:=by
 rcases h with h|⟨o,h_,n,hk,hc,hs,hz,r⟩
 ·obtain⟨z,h_,r,p⟩:=h.ok I.iH
  exact⟨h_,r,p,z⟩
 ·refine⟨h_.toList,r,⟨o,I.xo a o hk,hc,n,by simpa using hs⟩,?_⟩
  have e:=r.length
  simp only [abc] at e
  omega
theorem Inv.pI(I:Inv X c_ σ H s)(h:gH X.K H a xs)(h':gH X.K H a ys):xs=ys:=by
 obtain⟨h_,r,⟨o,n,e,_,_,d⟩,_⟩:=I.list h
 obtain⟨its',r',⟨o',n',e',_,_,d'⟩,_⟩:=I.list h'
 rw[e] at e';cases e'
 rw[d] at d'
 injection d' with d1 _
 have:h_=its':=by simpa using aa6 Array.toList d1
 subst this
 exact r.inj r'
theorem Inv.Hn(I:Inv X c_ σ H s)(h:rG X.K H a xs)(h':rG X.K H a ys):xs=ys:=by
 obtain⟨h_,r,⟨o,e,_,n,d⟩,_⟩:=I.tuple h
 obtain⟨its',r',⟨o',e',_,n',d'⟩,_⟩:=I.tuple h'
 rw[e] at e';cases e'
 rw[d] at d'
 injection d' with d1 _
 have:h_=its':=by simpa using aa6 Array.toList d1
 subst this
 exact r.inj r'
end
noncomputable abbrev Cx.A1(X:Cx)(E:Qqq):Cx:={X with xe:=E}
noncomputable abbrev Cx.RW(X:Cx):Cx:=X.A1 fun _ _=>False
theorem Cx.Ok.A1{X:Cx}(ok:X.Ok)(E:Qqq):(X.A1 E).Ok:=
 ⟨ok.mod,ok.kind,ok.glob,ok.blt,ok.above,ok.inj,ok.has,ok.Q5,ok.hd,ok.frames,ok.RO,ok.V8,ok.bs,ok.LV,ok.tI,ok.Ja,ok.uQ,ok.Ny⟩
theorem Cx.Ok.rH{X:Cx}{E:Qqq}(ok:(X.A1 E).Ok):X.Ok:=
 ⟨ok.mod,ok.kind,ok.glob,ok.blt,ok.above,ok.inj,ok.has,ok.Q5,ok.hd,ok.frames,ok.RO,ok.V8,ok.bs,ok.LV,ok.tI,ok.Ja,ok.uQ,ok.Ny⟩
section
variable{X:Cx}{c_:Qqz}{σ:St}{H:Hp}{s:Shared}{E:Qqq}
theorem Inv.A1(I:Inv X c_ σ H s)(E:Qqq):Inv (X.A1 E) c_ σ H s:=⟨I.ok.A1 E,I.os,I.bare,I.base,I.loc,I.cell,I.free,I.pH,I.pin,I.iH,I.len⟩
theorem Inv.rH(I:Inv (X.A1 E) c_ σ H s):Inv X c_ σ H s:=⟨I.ok.rH,I.os,I.bare,I.base,I.loc,I.cell,I.free,I.pH,I.pin,I.iH,I.len⟩
theorem SP.rH{D:Ends}{f:Flow}{s':Shared}(h:SP (X.A1 E) c_ D f s'):SP X c_ D f s':=by
 cases f with
 | next=>obtain⟨σ',H',I,q⟩:=h;exact⟨σ',H',I.rH,q⟩
 | brk=>obtain⟨σ',H',I,q⟩:=h;exact⟨σ',H',I.rH,q⟩
 | cont=>obtain⟨σ',H',I,q⟩:=h;exact⟨σ',H',I.rH,q⟩
 | ret u=>obtain⟨v,σ',H',I,r,q⟩:=h;exact⟨v,σ',H',I.rH,r,q⟩
theorem Fm.RW{st:List Stmt}{t:TS}(h:Fm X.RW st t):Fm X st t:=fun c_ s σ H D I hw=>
 abA (h c_ s σ H D (I.A1 _) hw) (fun _ _ q=>q.rH) fun _ _ z=>False.elim z
end
section
variable{X:Cx}{st:Stmt}{rest:List Stmt}{t u:TS}{e:Expr}{te:TE}{pos:Pos}
def RX:TS:=fun D σ H=>D.nx σ H
def gB(t u:TS):TS:=fun D σ H=>t {D with nx:=u D} σ H
theorem g_:Fm X [] RX:=fun _ _ σ H _ I h=>wpAny_execs_nil ⟨σ,H,I,h⟩
theorem de(h1:PS X st t)(h2:Fm X rest u):Fm X (st::rest) (gB t u):=by
 intro c_ s σ H D I h
 refine wpAny_execs_cons (i6 (h1 c_ s σ H {D with nx:=u D} I h) fun f s1 q=>?_)
 cases f with
 | next=>
  obtain⟨σ',H',I',q⟩:=q
  exact h2 c_ s1 σ' H' D I' q
 | ret v=>exact q
 | brk=>exact q
 | cont=>exact q
theorem fR(h1:PS X st t):Fm X [st] t:=by
 intro c_ s σ H D I h
 refine wpAny_execs_cons (i6 (h1 c_ s σ H D I h) fun f s1 q=>?_)
 cases f with
 | next=>exact wpAny_execs_nil q
 | ret v=>exact q
 | brk=>exact q
 | cont=>exact q
def RY:TS:=fun D σ H=>D.ct σ H
theorem D1:PS X (.Continue pos) RY:=fun _ _ σ H _ I h=>wpAny_Continue ⟨σ,H,I,h⟩
theorem Inv.quiet{c_:Qqz}{σ:St}{H:Hp}{s:Shared}(I:Inv X c_ σ H s):interactive X.env=false:=by simp[interactive,I.ok.kind]
def RZ(te:TE):TS:=fun D σ H=>te σ H fun _ H1=>D.nx σ H1
theorem hX(he:PE X e te)(hs:swapsWith e none pos.line X.env=pure false:=by rfl):PS X (.Expr e pos) (RZ te):=by
 intro c_ s σ H D I h
 exact wpAny_Expr_any (i6 (he c_ s σ H _ I h) fun v s1 ⟨x,H1,I1,r1,q1⟩=>⟨σ,H1,I1,q1⟩) I.quiet hs
def Wb(te:TE):TS:=fun D σ H=>te σ H D.rt
theorem hE(he:PE X e te):PS X (.Return (some e) pos) (Wb te):=by
 intro c_ s σ H D I h
 exact wpAny_Return_some (i6 (he c_ s σ H _ I h) fun v s1 ⟨x,H1,I1,r1,q1⟩=>⟨x,σ,H1,I1,r1,q1⟩)
def Wc(c:TT)(t u:TS):TS:=fun D σ H=>c σ H fun b H1=>if b=true then t D σ H1 else u D σ H1
theorem ik{c:Expr}{a b:List Stmt}{tc:TT}(hc:PT X c tc)(ha:Fm X a t)(hb:Fm X b u):PS X (.If c a b pos) (Wc tc t u):=by
 intro c_ s σ H D I h
 refine wpAny_If (i6 (hc c_ s σ H _ I h) fun d s1 iF=>?_)
 obtain⟨H1,I1,q1⟩:=iF
 cases d with
 | true=>exact ha c_ s1 σ H1 D I1 q1
 | false=>exact hb c_ s1 σ H1 D I1 q1
end
abbrev TG:=V→St→Hp→(St→Hp→Prop)→Prop
abbrev OK:=List V→St→Hp→(St→Hp→Prop)→Prop
def PG(X:Cx)(target:Expr)(t:TG):Prop:=
 ∀(c_:Qqz)(s:Shared)(σ:St)(H:Hp)(v:V)(u:Value)(Q:St→Hp→Prop),Inv X c_ σ H s→RelV v u→t v σ H Q→
  wpAny (model X.prog X.w) X.A (assign target X.env u) (fun _ s'=>∃σ' H',Inv X c_ σ' H' s'∧Q σ' H') X.xe s
def U7(X:Cx)(ts:List Expr)(t:OK):Prop:=
 ∀(c_:Qqz)(s:Shared)(σ:St)(H:Hp)(vs:List V)(us:List Value)(Q:St→Hp→Prop),Inv X c_ σ H s→Vals vs us→t vs σ H Q→
  wpAny (model X.prog X.w) X.A (assignInOrder ((assignEach ts X.env).map (·.2)) us) (fun _ s'=>∃σ' H',Inv X c_ σ' H' s'∧Q σ' H') X.xe s
abbrev OL:=V→V→V→Hp→(Hp→Prop)→Prop
def R0(X:Cx)(t:OL):Prop:=
 ∀(c_:Qqz)(s:Shared)(σ:St)(H:Hp)(o i v:V)(ov iv u:Value)(Q:Hp→Prop),Inv X c_ σ H s→RelV o ov→RelV i iv→RelV v u→t o i v H Q→
  wpAny (model X.prog X.w) X.A (setItem ov iv u) (fun _ s'=>∃H',Inv X c_ σ H' s'∧Q H') X.xe s
section
variable{X:Cx}{pos:Pos}
def mB(i:Nat):TG:=fun v σ H Q=>Q (σ.set i (some v)) H
theorem iw{i:Nat}{x:Str}(hN:X.N.Nodup)(hi:X.N[i]?=some x)(hx:Loc X.env.scope x)(hf:X.fn x=true∨X.env.scope.names.lookup x=some .local:=by first|exact .inl rfl|exact .inr rfl|assumption):PG X (.Name x pos) (mB i):=by
 intro c_ s σ H v u Q I r h
 exact wpAny_assign_Name (DY I hN hi hx r (fun s' I'=>⟨_,H,I',h⟩) hf)
def Wd:OK:=fun vs σ H Q=>vs=[]∧Q σ H
def R1(t:TG)(u:OK):OK:=fun vs σ H Q=>∃v r,vs=v::r∧t v σ H fun σ' H'=>u r σ' H' Q
theorem GD:U7 X [] Wd:=by
 intro c_ s σ H vs us Q I r h
 obtain⟨e,h⟩:=h
 subst e
 cases r
 exact assignInOrder_nil ⟨σ,H,I,h⟩
theorem uS{e:Expr}{es:List Expr}{t:TG}{u:OK}(h1:PG X e t)(h2:U7 X es u)
  (hs:(assignEach (e::es) X.env).map (·.2)=assign e X.env::(assignEach es X.env).map (·.2):=by rfl):U7 X (e::es) (R1 t u):=by
 intro c_ s σ H vs us Q I r h
 obtain⟨v,vr,e1,h⟩:=h
 subst e1
 cases r with
 | cons r rr=>
  rw[hs]
  refine assignInOrder_cons (i6 (h1 c_ s σ H _ _ _ I r h) fun _ s1 iF=>?_)
  obtain⟨σ1,H1,I1,q1⟩:=iF
  exact h2 c_ s1 σ1 H1 _ _ Q I1 rr q1
def We(K:Qqy)(n:Nat)(t:OK):TG:=fun v σ H Q=>∃a xs,v=.ref a∧rG K H a xs∧xs.length=n∧t xs σ H Q
theorem Je{es:List Expr}{k:Nat}{t:OK}{n:Nat}(hc:X.calm=true)(h:U7 X es t)
  (hn:(assignEach es X.env).length=n:=by rfl) (rE:(assignEach es X.env).findIdx? (·.1)=none:=by rfl):PG X (.Tuple es k pos) (We X.K n t):=by
 intro c_ s σ H v u Q I r hw
 obtain⟨a,xs,e1,hq,hl,hw⟩:=hw
 subst e1
 cases r
 obtain⟨h_,rv,ht,hz⟩:=I.tuple hq
 refine assign_Tuple_tuple (I.ok.hd hc) ht (by simp[hn,←hl,rv.length]) rE fun h' hx=>?_
 have I1:Inv X c_ σ H {s with heap:=h'}:=I.kept (t':=s.toks) fun b o e=>hx b o (aaU (aau e)) e
 exact h c_ _ σ H xs _ Q I1 (by simpa using rv) hw
def Wf(to ti:TE)(t:OL):TG:=fun v σ H Q=>to σ H fun o H1=>ti σ H1 fun i H2=>t o i v H2 fun H3=>Q σ H3
theorem yZ{o i:Expr}{to ti:TE}{t:OL}(ho:PE X o to)(hi:PE X i ti)(hs:R0 X t)
  (ha:∀v,assign (.Subscript o i pos) X.env v=(do
   let ov ←holding [v] (eval o X.env)
   let iv ←holding [v,ov] (eval i X.env)
   standAt pos
   holding [v,ov,iv] (setItem ov iv v)
   release [v,ov,iv] []):=by intro _;rfl):PG X (.Subscript o i pos) (Wf to ti t):=by
 intro c_ s σ H v u Q I r h
 rw[ha]
 refine T1 (abD (i6 (ho c_ s σ H _ I h) fun ov s1 iF=>?_))
 obtain⟨x,H1,I1,r1,q1⟩:=iF
 refine T1 (abD (i6 (hi c_ s1 σ H1 _ I1 q1) fun iv s2 iF=>?_))
 obtain⟨y,H2,I2,r2,q2⟩:=iF
 refine T1 (wpAny_standAt (T1 (abD (i6 (hs c_ s2 σ H2 x y v ov iv u _ I2 r1 r2 r q2) fun _ s3 iF=>?_))))
 obtain⟨H3,I3,q3⟩:=iF
 exact wpAny_release ⟨σ,H3,I3,q3⟩
def Jf(te:TE)(g:TG):TS:=fun D σ H=>te σ H fun x H1=>g x σ H1 D.nx
theorem y0{tg e:Expr}{te:TE}{g:TG}(he:PE X e te)(hg:PG X tg g)(hs:swapsWithSole [tg] e pos.line X.env=pure false:=by rfl)(hw:swappedStores [tg] e X.env=pure none:=by rfl)
  (h1:(assignEach [tg] X.env).map (·.2)=[assign tg X.env]:=by rfl):PS X (.Assign [tg] e pos) (Jf te g):=by
 intro c_ s σ H D I h
 refine wpAny_Assign_stores (i6 (he c_ s σ H _ I h) fun v s1 iF=>?_) hs hw
 obtain⟨x,H1,I1,r1,q1⟩:=iF
 rw[h1]
 exact i6 (hg c_ s1 σ H1 x v _ I1 r1 q1) fun _ s2 q=>q
theorem lq{i:Nat}{x:Str}{e:Expr}{te:TE}{pos':Pos}(hN:X.N.Nodup)(hi:X.N[i]?=some x)(hx:Loc X.env.scope x)(he:PE X e te)(hs:swapsWith e (some (.Name x pos')) pos.line X.env=pure false:=by rfl)(hf:X.fn x=true∨X.env.scope.names.lookup x=some .local:=by first|exact .inl rfl|exact .inr rfl|assumption) :
  PS X (.Assign [.Name x pos'] e pos) (Jf te (mB i)):=by
 intro c_ s σ H D I h
 refine wpAny_Assign_Name (i6 (he c_ s σ H _ I h) fun v s1 iF=>?_) hs
 obtain⟨y,H1,I1,r1,q1⟩:=iF
 exact DY I1 hN hi hx r1 (fun s2 I2=>⟨_,H1,I2,q1⟩) hf
def OM(c:TT)(tb:TS):TS:=fun D σ H=>∃W:Nat→St→Hp→Prop,(∃m,W m σ H)∧∀m σ H,W m σ H→
 c σ H fun b H1=>if b=true then ∃N:St→Hp→Prop,(∀σ' H',N σ' H'→∃m',m'<m∧W m' σ' H')∧tb {D with nx:=N,ct:=N,bk:=D.nx} σ H1 else D.nx σ H1
theorem D6{c:Expr}{body:List Stmt}{tc:TT}{tb:TS}(hp:PassesOwn (model X.prog X.w) X.A X.env X.xe)(hc:PT X c tc)(hb:Fm X body tb):PS X (.While c body [] pos) (OM tc tb):=by
 intro c_ s σ H D I h
 obtain⟨W,⟨m0,w0⟩,turn⟩:=h
 refine wpAny_While (codeAny_whileLoop (fun n s'=>∃σ' H',Inv X c_ σ' H' s'∧W n σ' H') ?_ m0 ⟨σ,H,I,w0⟩)
 rintro n s1 ⟨σ1,H1,I1,w1⟩
 refine abT hp (i6 (hc c_ s1 σ1 H1 _ I1 (turn n σ1 H1 w1)) fun b s2 iF=>?_)
 obtain⟨H2,I2,q2⟩:=iF
 cases b with
 | true=>
  obtain⟨N,hN,q2⟩:=q2
  rw[aar rfl]
  refine abT hp (i6 (hb c_ s2 σ1 H2 _ I2 q2) fun f s3 q3=>?_)
  cases f with
  | next=>
   obtain⟨σ3,H3,I3,n3⟩:=q3
   obtain⟨m',hm,w3⟩:=hN σ3 H3 n3
   exact⟨m',hm,σ3,H3,I3,w3⟩
  | cont=>
   obtain⟨σ3,H3,I3,n3⟩:=q3
   obtain⟨m',hm,w3⟩:=hN σ3 H3 n3
   exact⟨m',hm,σ3,H3,I3,w3⟩
  | brk=>exact q3
  | ret v=>exact q3
 | false=>
  rw[aap aaf]
  exact wpAny_execs_nil ⟨σ1,H2,I2,q2⟩
end
structure It where
 go:Nat→Hp→Prop
 Jg:Nat→Hp→V→Hp→Prop
 stop:Nat→Hp→Prop
def ug(X:Cx)(c_:Qqz)(H:Hp)(b:Addr):Prop:=
 H b=none∧b≠X.env.locals∧b∉X.fs∧(b∈X.ex∨X.s₀.heap.objs.size≤b)∧(∀x c,X.env.cells.lookup x=some c→c≠b)∧∀p∈X.pn++c_,p.1≠b
theorem Inv.y6{X:Cx}{c_:Qqz}{σ:St}{H H':Hp}{s:Shared}{b:Addr}(I:Inv X c_ σ H s)(hb:s.heap.objs.size≤b)(hn:H' b=none):ug X c_ H' b:=by
 refine⟨hn,Nat.ne_of_gt (aaD I.lt hb),I.RP hb,.inr (XI I.sz hb),fun x c e z=>?_,fun p hp z=>?_⟩
 ·obtain⟨v,q⟩:=I.cell x c e
  exact absurd (aaD q.lt (by rw[z];exact hb)) (abg _)
 ·exact absurd (aaD (aau (I.pin p hp).1) (by rw[z];exact hb)) (abg _)
structure Turn(P:Program)(w:World)(K:Qqy)(tg:Expr)(J:It)(fp:List Addr)(it:Addr)(tn:Nat→Heap→Prop):Prop where
 mem:it∈fp
 obj:∀i h,tn i h→∀b∈fp,∃o,h.get? b=some o∧∀v,o.data≠.cell v
 keep:∀i h h',tn i h→(∀b∈fp,∀o,h.get? b=some o→h'.get? b=some o)→tn i h'
 item:∀(X:Cx),X.prog=P→X.w=w→X.K=K→X.calm=true→∀(i:Nat)(c_:Qqz)(s:Shared)(σ:St)(H:Hp)(E:Qqq),Inv X c_ σ H s→(∀b∈fp,ug X c_ H b)→tn i s.heap→J.go i H→
  wpAny (model P w) X.A (pyNext (.ref it)) (fun r s1=>∃u,r=some u∧
   wpAny (model P w) X.A (letOwnedTupleGo tg (.ref it) u) (fun _ s2=>∃x H',Inv X c_ σ H' s2∧RelV x u∧J.Jg i H x H'∧tn (i+1) s2.heap∧∀b∈fp,H' b=none) E s1) E s
 done:∀(X:Cx),X.prog=P→X.w=w→X.K=K→X.calm=true→∀(i:Nat)(c_:Qqz)(s:Shared)(σ:St)(H:Hp)(E:Qqq),Inv X c_ σ H s→(∀b∈fp,ug X c_ H b)→tn i s.heap→J.stop i H→
  wpAny (model P w) X.A (pyNext (.ref it)) (fun r s1=>r=none∧Inv X c_ σ H s1) E s
 self:∀(A:Around)(i:Nat)(s:Shared)(Q:Qqq)(E:Qqq),tn i s.heap→Q (.ref it) s→wpAny (model P w) A (pyIter (.ref it)) Q E s
abbrev TI:=St→Hp→(It→Hp→Prop)→Prop
def Wg(X:Cx)(c_:Qqz)(σ:St)(tg:Expr)(R:It→Hp→Prop)(Vf:Value)(s2:Shared):Prop:=
 ∃(it:Addr)(fp:List Addr)(tn:Nat→Heap→Prop)(J:It)(H':Hp),Vf=.ref it∧Inv X c_ σ H' s2∧Turn X.prog X.w X.K tg J fp it tn∧tn 0 s2.heap∧(∀b∈fp,ug X c_ H' b)∧R J H'
def PI(X:Cx)(tg iter:Expr)(wi:TI):Prop:=
 ∀(c_:Qqz)(s:Shared)(σ:St)(H:Hp)(R:It→Hp→Prop),Inv X c_ σ H s→wi σ H R→
  wpAny (model X.prog X.w) X.A (eval iter X.env) (fun v s1=>wpAny (model X.prog X.w) X.A (pyIter v) (Wg X c_ σ tg R) X.xe s1) X.xe s
theorem y7{M:Model}{A:Around}{E:Qqq}{s:Shared}{tg:Expr}{it:Addr}{u:Value}{o:Obj}{n:String}{vs:Array Value}{Q:Unit→Shared→Prop}(ho:s.heap.get? it=some o)(hc:o.cls=.type n)(hd:o.data=.fields vs)
  (hn:["enumerate","zip","dict_itemiterator","dict_reverseitemiterator","odict_iterator","itertools.zip_longest","itertools.pairwise"].contains n=false) (hQ:Q () s):wpAny M A (letOwnedTupleGo tg (.ref it) u) Q E s:=by
 unfold letOwnedTupleGo
 cases tg<;>first
  | exact aag hQ
  | (cases u<;>first
   | exact aag hQ
   | (
    refine T1 (wpAny_load ho ?_)
    rw[hc,hd]
    show wpAny M A (if(["enumerate","zip","dict_itemiterator","dict_reverseitemiterator","odict_iterator","itertools.zip_longest","itertools.pairwise"].contains n&&vs[0]? ==some (rawInt _))=true then _ else _) Q E s
    rw[aap (by intro h;rw[hn,Bool.false_and] at h;cases h)]
    exact aag hQ))
noncomputable def Q6(K:Qqy)(a:Addr):It:=
 ⟨fun i H=>∃xs x,gH K H a xs∧xs[i]?=some x,fun i H x H'=>H'=H∧∀xs,gH K H a xs→xs[i]?=some x,fun i H=>∃xs,gH K H a xs∧xs.length≤i⟩
noncomputable def Nz(lo:Int)(n:Nat):It:=⟨fun i _=>i<n,fun i H x H'=>H'=H∧x=.int (lo+i),fun i _=>n≤i⟩
theorem Ho{P:Program}{w:World}{K:Qqy}{tg:Expr}(a it:Addr):Turn P w K tg (Q6 K a) [it] it (fun i h=>h.IsListIter it a i) where
 mem:=by simp
 obj:=fun i h st b hb=>by
  have e:b=it:=by simpa using hb
  subst e
  obtain⟨o,e,c,d⟩:=st
  exact⟨o,e,fun v z=>by rw[d] at z;cases z⟩
 keep:=fun i h h' st k=>st.at fun o e=>k it (by simp) o e
 item:=by
  intro X hP hw hK hc i c_ s σ H E I hf st hg
  subst hP hw hK
  obtain⟨xs,x,hq,hx⟩:=hg
  obtain⟨h_,rv,p,hz⟩:=I.list hq
  obtain⟨u,hu,ru⟩:=rv.get hx
  obtain⟨f0,f1,f2,f3,f4,f5⟩:=hf it (by simp)
  refine wpAny_pyNext_list_item st p.isList (x:=u) (by simpa using hu) fun h' Bm sb=>?_
  have I1:Inv X c_ σ H {s with heap:=h'}:=I.turned (t':=s.toks) (fun b o hb e=>(sb.2 b hb).trans e) f0 f1 f3 f4 f5
  obtain⟨o,e,c,d⟩:=id Bm
  exact⟨u,rfl,y7 (s:={s with heap:=h'}) e c d (by decide) ⟨x,H,I1,ru,⟨rfl,fun ys hy=>by rw[I.pI hy hq];exact hx⟩,Bm,fun b hb=>(hf b hb).1⟩⟩
 done:=by
  intro X hP hw hK hc i c_ s σ H E I hf st hg
  subst hP hw hK
  obtain⟨xs,hq,hx⟩:=hg
  obtain⟨h_,rv,p,hz⟩:=I.list hq
  obtain⟨f0,f1,f2,f3,f4,f5⟩:=hf it (by simp)
  have hl:=rv.length
  exact wpAny_pyNext_list_end (I.ok.hd hc) st p.isList (by simp;omega) fun h' eb=>⟨rfl,I.turned (t':=s.toks) (fun b o hb e=>eb b o hb e) f0 f1 f3 f4 f5⟩
 self:=fun _ _ _ _ _ st h=>wpAny_pyIter_listiter st h
theorem Fq{P:Program}{w:World}{K:PySem.W.Frag}{tg:Expr}(it:Addr)(lo:Int)(n:Nat):Turn P w K tg (Nz lo n) [it] it (fun i h=>IsRangeIter h it (lo+(i:Nat)*1) ((n:Int)-(i:Nat)) 1) where
 mem:=by simp
 obj:=fun i h st b hb=>by
  have e:b=it:=by simpa using hb
  subst e
  exact⟨_,st,fun v z=>by
   have z':Data.fields _=Data.cell v:=z
   cases z'⟩
 keep:=fun i h h' st k=>k it (by simp) _ st
 item:=by
  intro X hP hw hK hc i c_ s σ H E I hf st hg
  subst hP hw hK
  obtain⟨f0,f1,f2,f3,f4,f5⟩:=hf it (by simp)
  have W:=Walks.range (prog:=X.prog) (w:=X.w) (I.ok.hd hc) it lo 1 n
  refine W.item i s _ _ hg st fun v h' tk hv Bm kk=>?_
  obtain⟨t,rfl⟩:=hv
  have I1:Inv X c_ σ H {s with heap:=h',toks:=tk}:=I.turned (fun b o hb e=>kk b o (by simpa using hb) e) f0 f1 f3 f4 f5
  refine⟨_,rfl,y7 (s:={s with heap:=h',toks:=tk}) (n:="range_iterator") Bm rfl rfl (by decide) ⟨.int (lo+i),H,I1,⟨t,?_⟩,⟨rfl,rfl⟩,Bm,fun b hb=>(hf b hb).1⟩⟩
  rw[Int.mul_one]
 done:=by
  intro X hP hw hK hc i c_ s σ H E I hf st hg
  subst hP hw hK
  obtain⟨f0,f1,f2,f3,f4,f5⟩:=hf it (by simp)
  exact wpAny_pyNext_range_end (I.ok.hd hc) st (by have:n≤i:=hg;omega) fun h' eb=>⟨rfl,I.turned (t':=s.toks) (fun b o hb e=>eb b o hb e) f0 f1 f3 f4 f5⟩
 self:=fun _ _ _ _ _ st h=>wpAny_pyIter_rangeiter st h
section
variable{X:Cx}{tg:Expr}
def R3(K:Qqy)(tl:TE):TI:=fun σ H R=>tl σ H fun x H1=>∃a,x=.ref a∧(∃xs,gH K H1 a xs)∧R (Q6 K a) H1
theorem ir{l:Expr}{tl:TE}(hl:PE X l tl):PI X tg l (R3 X.K tl):=by
 intro c_ s σ H R I h
 refine i6 (hl c_ s σ H _ I h) fun v s1 iF=>?_
 obtain⟨x,H1,I1,r1,q1⟩:=iF
 obtain⟨a,e,⟨xs,hq⟩,q⟩:=q1
 subst e
 cases r1
 obtain⟨h_,rv,p,hz⟩:=I1.list hq
 refine wpAny_pyIter_list p.isList ?_
 refine⟨s1.heap.objs.size,[s1.heap.objs.size],_,_,H1,rfl,I1.kept (t':=s1.toks) fun b o e=>aab _ e,Ho a _,⟨_,aav _ rfl,rfl,rfl⟩,fun b hb=>?_,q⟩
 have e:b=s1.heap.objs.size:=by simpa using hb
 subst e
 exact I1.y6 (WL _) (I1.iH.fresh (WL _))
theorem D7{c_:Qqz}{σ:St}{H:Hp}{s:Shared}{R:It→Hp→Prop}{E:Qqq}{lo hi:Int}{t u v:Tok}{tk:Nat}(I:Inv X c_ σ H s)(h1:-(2 ^ 62)≤lo)(h2:lo<2 ^ 62)(h3:-(2 ^ 62)≤hi)(h4:hi<2 ^ 62)
  (q:R (Nz lo (hi-lo).toNat) H):wpAny (model X.prog X.w) X.A (pyIter (.ref s.heap.objs.size)) (Wg X c_ σ tg R) E {s with heap:=s.heap.push {cls:=.type "range",data:=.fields #[.int lo t,.int hi u,.int 1 v]},toks:=tk}:=by
 refine wpAny_pyIter_range (IsRange.new ..) (small_one h1 h2 h3 h4) ?_
 have I1:Inv X c_ σ H {s with heap:=s.heap.push {cls:=.type "range",data:=.fields #[.int lo t,.int hi u,.int 1 v]},toks:=tk}:=I.kept fun b o e=>aab _ e
 refine⟨(s.heap.push {cls:=.type "range",data:=.fields #[.int lo t,.int hi u,.int 1 v]}).objs.size,[(s.heap.push {cls:=.type "range",data:=.fields #[.int lo t,.int hi u,.int 1 v]}).objs.size],_,_,H,rfl,
  I1.kept (t':=tk) fun b o e=>aab _ e,Fq _ lo (hi-lo).toNat,?_,fun b hb=>?_,q⟩
 ·have e1:lo+((0:Nat):Int)*1=lo:=by simp
  have e2:(((hi-lo).toNat:Nat):Int)-((0:Nat):Int)=Builtin.Range.rangeSize lo hi 1:=by rw[rangeSize_one];split<;>omega
  show IsRangeIter _ _ (lo+((0:Nat):Int)*1) ((((hi-lo).toNat:Nat):Int)-((0:Nat):Int)) 1
  rw[e1,e2]
  exact aav _ rfl
 ·have e:b=(s.heap.push {cls:=.type "range",data:=.fields #[.int lo t,.int hi u,.int 1 v]}).objs.size:=by simpa using hb
  subst e
  exact I1.y6 (WL _) (I1.iH.fresh (WL _))
def R4(ta:TA):TI:=fun σ H R=>ta σ H fun vs H1=>∃j:Int,vs=[.int j]∧-(2 ^ 62)≤j∧j<2 ^ 62∧R (Nz 0 j.toNat) H1
def R5(ta:TA):TI:=fun σ H R=>ta σ H fun vs H1=>∃i j:Int,vs=[.int i,.int j]∧(-(2 ^ 62)≤i∧i<2 ^ 62∧-(2 ^ 62)≤j∧j<2 ^ 62)∧R (Nz i (j-i).toNat) H1
theorem jh{a:Expr}{ta:TA}{p pos:Pos}(hg:Gl X "range")(hm:X.mg "range"=none)(ha:PA X [a] ta)(hs:starEach [a] X.env=[(false,eval a X.env)]:=by rfl):PI X tg (.Call (.Name "range" p) [a] [] pos) (R4 ta):=by
 intro c_ s σ H R I h
 refine Call_ (nN I hg hm boot_range (aaZ (i6 (ha pos c_ s σ H _ I h) fun us s1 iF=>?_) hs rfl))
 obtain⟨vs,H1,I1,r1,q1⟩:=iF
 obtain⟨j,e,q1,q2,q⟩:=q1
 subst e
 cases r1 with
 | cons r rr=>
  cases rr
  obtain⟨t,rfl⟩:=r
  exact call_range_1 (D7 I1 (by omega) (by omega) q1 q2 (by simpa using q))
theorem pJ{a b:Expr}{ta:TA}{p pos:Pos}(hg:Gl X "range")(hm:X.mg "range"=none)(ha:PA X [a,b] ta)(hs:starEach [a,b] X.env=[(false,eval a X.env),(false,eval b X.env)]:=by rfl)(Bn:starEach [b] X.env=[(false,eval b X.env)]:=by rfl) :
  PI X tg (.Call (.Name "range" p) [a,b] [] pos) (R5 ta):=by
 intro c_ s σ H R I h
 refine Call_ (nN I hg hm boot_range (aaZ (i6 (ha pos c_ s σ H _ I h) fun us s1 iF=>?_) (by rw[hs,Bn]) (by rw[Bn];rfl)))
 obtain⟨vs,H1,I1,r1,q1⟩:=iF
 obtain⟨i,j,e,⟨q1,q2,q3,q4⟩,q⟩:=q1
 subst e
 cases r1 with
 | cons r rr=>
  cases rr with
  | cons r' rr=>
   cases rr
   obtain⟨t,rfl⟩:=r
   obtain⟨t',rfl⟩:=r'
   exact call_range_2 (D7 I1 q1 q2 q3 q4 q)
def ON(wi:TI)(g:TG)(tb:TS):TS:=fun D σ H=>wi σ H fun J H1=>∃W:Nat→Nat→St→Hp→Prop,(∃m,W 0 m σ H1)∧∀i m σ H,W i m σ H→
 (J.stop i H∧D.nx σ H)∨(J.go i H∧∃N:St→Hp→Prop,(∀σ' H',N σ' H'→∃m',m'<m∧W (i+1) m' σ' H')∧∀x H',J.Jg i H x H'→g x σ H' fun σ2 H2=>tb {D with nx:=N,ct:=N,bk:=D.nx} σ2 H2)
noncomputable def y8(fp:List Addr)(h:Heap):Qqz:=fp.filterMap fun b=>(h.get? b).map fun o=>(b,o)
theorem qk{fp:List Addr}{h:Heap}{b:Addr}{o:Obj}(hb:b∈fp)(e:h.get? b=some o):(b,o)∈y8 fp h:=abI.mpr ⟨b,hb,by rw[e];rfl⟩
theorem Hq{fp:List Addr}{h:Heap}{p:Addr×Obj}(hp:p∈y8 fp h):p.1∈fp∧h.get? p.1=some p.2:=by
 obtain⟨b,hb,e⟩:=abI.mp hp
 cases q:h.get? b with
 | none=>rw[q] at e;cases e
 | some o=>
  rw[q] at e
  have e':(b,o)=p:=aaA e
  subst e'
  exact⟨hb,q⟩
theorem Inv.pinned{c_:Qqz}{σ:St}{H:Hp}{s:Shared}{fp:List Addr}(I:Inv X c_ σ H s)(hf:∀b∈fp,ug X c_ H b)(ho:∀b∈fp,∃o,s.heap.get? b=some o∧∀v,o.data≠.cell v):Inv X (c_++y8 fp s.heap) σ H s:=
 I.yL fun p hp=>(Z3.mp hp).elim (fun z=>I.pin p (aaL _ z)) fun z=>by
  obtain⟨hb,e⟩:=Hq z
  obtain⟨f0,f1,f2,_⟩:=hf p.1 hb
  obtain⟨o,e',d⟩:=ho p.1 hb
  rw[e] at e';cases e'
  exact⟨e,f0,f1,f2,d⟩
theorem Inv.uT{c_ pl:Qqz}{σ:St}{H:Hp}{s:Shared}(I:Inv X (c_++pl) σ H s):Inv X c_ σ H s:=I.yL fun p hp=>I.pin p (aaL _ (aas _ hp))
theorem il{iter:Expr}{body:List Stmt}{wi:TI}{g:TG}{tb:TS}{pos:Pos}(hp:PassesOwn (model X.prog X.w) X.A X.env X.xe)(hc:X.calm=true)(hi:PI X tg iter wi)(hg:PG X tg g)(hb:Fm X body tb)
  (hs:∀x,foldedSetIterable iter X.env x=pure x:=by intro _;rfl):PS X (.For tg iter body [] pos) (ON wi g tb):=by
 intro c_ s σ H D I h
 refine wpAny_For (i6 (hi c_ s σ H _ I h) fun v s1 h1=>i6 h1 fun Vf s2 h2=>?_) hs
 obtain⟨it,fp,tn,J,H2,e,I2,T,Bo,f2,W,⟨m0,w0⟩,turn⟩:=h2
 subst e
 have Qn:∀{H':Hp},(∀b∈fp,H' b=none)→∀b∈fp,ug X c_ H' b:=fun hn b hb=>⟨hn b hb,(f2 b hb).2⟩
 refine codeAny_forLoop_any (fun n s'=>∃i σ' H',Inv X c_ σ' H' s'∧tn i s'.heap∧(∀b∈fp,H' b=none)∧W i n σ' H') ?_ m0 ⟨0,σ,H2,I2,Bo,fun b hb=>(f2 b hb).1,w0⟩
 rintro n s3 ⟨i,σ3,H3,I3,uh,Th,w3⟩
 rcases turn i n σ3 H3 w3 with⟨stop,qn⟩|⟨go,N,hN,step⟩
 ·refine abT hp (i6 (T.done X rfl rfl rfl hc i c_ s3 σ3 H3 X.xe I3 (Qn Th) uh stop) fun r s4 iF=>?_)
  obtain⟨hr,I4⟩:=iF
  subst hr
  exact wpAny_execs_nil ⟨σ3,H3,I4,qn⟩
 ·refine abT hp (i6 (T.item X rfl rfl rfl hc i c_ s3 σ3 H3 X.xe I3 (Qn Th) uh go) fun r s4 iF=>?_)
  obtain⟨u,hr,h4⟩:=iF
  subst hr
  refine abT hp (i6 h4 fun _ s5 iF=>?_)
  obtain⟨x,H5,I5,r5,y5,Qo,W_⟩:=iF
  have Xa:=I5.pinned (Qn W_) (T.obj _ _ Qo)
  refine abT hp (i6 (hg _ s5 σ3 H5 x u _ Xa r5 (step x H5 y5)) fun _ s6 iF=>?_)
  obtain⟨σ6,H6,I6,q6⟩:=iF
  refine abT hp (i6 (hb _ s6 σ6 H6 _ I6 q6) fun f s7 q7=>?_)
  have again:∀{σ7:St} {H7:Hp},Inv X (c_++y8 fp s5.heap) σ7 H7 s7→N σ7 H7→∃m,m<n∧∃i σ' H',Inv X c_ σ' H' s7∧tn i s7.heap∧(∀b∈fp,H' b=none)∧W i m σ' H':=fun{σ7 H7} I7 n7=>by
   obtain⟨m',hm,w7⟩:=hN σ7 H7 n7
   refine⟨m',hm,i+1,σ7,H7,I7.uT,T.keep _ _ _ Qo fun b hb o e=>(I7.pin (b,o) (aaL _ (aaL _ (qk hb e)))).1,fun b hb=>?_,w7⟩
   obtain⟨o,e,d⟩:=T.obj _ _ Qo b hb
   exact(I7.pin (b,o) (aaL _ (aaL _ (qk hb e)))).2.1
  cases f with
  | next=>obtain⟨σ7,H7,I7,n7⟩:=q7;exact again I7 n7
  | cont=>obtain⟨σ7,H7,I7,n7⟩:=q7;exact again I7 n7
  | brk=>obtain⟨σ7,H7,I7,q7⟩:=q7;exact⟨σ7,H7,I7.uT,q7⟩
  | ret v=>obtain⟨x7,σ7,H7,I7,r7,q7⟩:=q7;exact⟨x7,σ7,H7,I7.uT,r7,q7⟩
end
theorem iM{K:PySem.W.Frag}{a:Addr}{xs:List V}{g:TG}{tb:TS}{D:Ends}{σ:St}{H:Hp}(Pv:Nat→St→Hp→Prop)(h0:Pv 0 σ H)(hl:∀i σ H,i≤xs.length→Pv i σ H→gH K H a xs)
  (hs:∀i x σ H,xs[i]?=some x→Pv i σ H→g x σ H fun σ2 H2=>tb {D with nx:=Pv (i+1),ct:=Pv (i+1),bk:=D.nx} σ2 H2) (hd:∀σ H,Pv xs.length σ H→D.nx σ H) :
  ∃W:Nat→Nat→St→Hp→Prop,(∃m,W 0 m σ H)∧∀i m σ H,W i m σ H→
   ((Q6 K a).stop i H∧D.nx σ H)∨((Q6 K a).go i H∧∃N:St→Hp→Prop,(∀σ' H',N σ' H'→∃m',m'<m∧W (i+1) m' σ' H')∧∀x H',(Q6 K a).Jg i H x H'→g x σ H' fun σ2 H2=>tb {D with nx:=N,ct:=N,bk:=D.nx} σ2 H2):=by
 refine⟨fun i m σ H=>m=xs.length-i∧i≤xs.length∧Pv i σ H,⟨xs.length,by simp,aaz _,h0⟩,?_⟩
 rintro i m σ H ⟨rfl,hi,p⟩
 have q:=hl i σ H hi p
 by_cases jQ:i<xs.length
 ·refine .inr ⟨⟨xs,xs[i],q,by simp[jQ]⟩,Pv (i+1),fun σ' H' p'=>⟨xs.length-(i+1),by omega,rfl,jQ,p'⟩,fun x H' y=>?_⟩
  obtain⟨e,y⟩:=y
  subst e
  exact hs i x σ _ (y xs q) p
 ·have e:i=xs.length:=by omega
  subst e
  exact .inl ⟨⟨xs,q,WL _⟩,hd σ H p⟩
theorem jB{lo:Int}{n:Nat}{g:TG}{tb:TS}{D:Ends}{σ:St}{H:Hp}(Pv:Nat→St→Hp→Prop)(h0:Pv 0 σ H)
  (hs:∀i σ H,i<n→Pv i σ H→g (.int (lo+i)) σ H fun σ2 H2=>tb {D with nx:=Pv (i+1),ct:=Pv (i+1),bk:=D.nx} σ2 H2) (hd:∀σ H,Pv n σ H→D.nx σ H) :
  ∃W:Nat→Nat→St→Hp→Prop,(∃m,W 0 m σ H)∧∀i m σ H,W i m σ H→
   ((Nz lo n).stop i H∧D.nx σ H)∨((Nz lo n).go i H∧∃N:St→Hp→Prop,(∀σ' H',N σ' H'→∃m',m'<m∧W (i+1) m' σ' H')∧∀x H',(Nz lo n).Jg i H x H'→g x σ H' fun σ2 H2=>tb {D with nx:=N,ct:=N,bk:=D.nx} σ2 H2):=by
 refine⟨fun i m σ H=>m=n-i∧i≤n∧Pv i σ H,⟨n,by simp,aaz _,h0⟩,?_⟩
 rintro i m σ H ⟨rfl,hi,p⟩
 by_cases jQ:i<n
 ·refine .inr ⟨jQ,Pv (i+1),fun σ' H' p'=>⟨n-(i+1),by omega,rfl,jQ,p'⟩,fun x H' y=>?_⟩
  obtain⟨e,y⟩:=y
  subst e y
  exact hs i σ _ jQ p
 ·have e:i=n:=by omega
  subst e
  exact .inl ⟨WL _,hd σ H p⟩
abbrev R2:=V→V→Hp→VK→Prop
def xp(X:Cx)(f:Value→Value→Sem Value)(r:R2):Prop:=
 ∀(c_:Qqz)(s:Shared)(σ:St)(H:Hp)(x y:V)(v u:Value)(Q:VK),Inv X c_ σ H s→RelV x v→RelV y u→r x y H Q→
  wpAny (model X.prog X.w) X.A (f v u) (EP X c_ σ Q) X.xe s
def Wh(X:Cx)(f:Value→Sem Value)(r:V→Hp→VK→Prop):Prop:=
 ∀(c_:Qqz)(s:Shared)(σ:St)(H:Hp)(x:V)(v:Value)(Q:VK),Inv X c_ σ H s→RelV x v→r x H Q→
  wpAny (model X.prog X.w) X.A (f v) (EP X c_ σ Q) X.xe s
def tQ(X:Cx)(f:Value)(r:List V→Hp→VK→Prop):Prop:=
 ∀(c_:Qqz)(s:Shared)(σ:St)(H:Hp)(xs:List V)(us:List Value)(Q:VK),Inv X c_ σ H s→Vals xs us→r xs H Q→
  wpAny (model X.prog X.w) X.A (call f us) (EP X c_ σ Q) X.xe s
def Wi(X:Cx)(r:V→Hp→(Bool→Hp→Prop)→Prop):Prop:=
 ∀(c_:Qqz)(s:Shared)(σ:St)(H:Hp)(x:V)(v:Value)(Q:Bool→Hp→Prop),Inv X c_ σ H s→RelV x v→r x H Q→
  wpAny (model X.prog X.w) X.A (truthy v) (TP X c_ σ Q) X.xe s
def R6(r:R2)(ta tb:TE):TE:=fun σ H Q=>ta σ H fun x H1=>tb σ H1 fun y H2=>r x y H2 Q
def tUn(r:V→Hp→VK→Prop)(ta:TE):TE:=fun σ H Q=>ta σ H fun x H1=>r x H1 Q
def rI(C:Int→Int→Prop)(g:Int→Int→V):R2:=fun x y H Q=>∃i j,x=.int i∧y=.int j∧C i j∧Q (g i j) H
def NA(g:Int→Int→V):R2:=fun x y H Q=>∃i j,x=.int i∧y=.int j∧Q (g i j) H
def rU(g:Int→V):V→Hp→VK→Prop:=fun x H Q=>∃i,x=.int i∧Q (g i) H
section
variable{X:Cx}{a b c:Expr}{ta tb tc:TE}{pos:Pos}
theorem OO(ha:PE X a ta)(hb:PE X b tb){c_:Qqz}{s:Shared}{σ:St}{H:Hp}{R:V→V→Hp→Prop}(I:Inv X c_ σ H s)
  (h:ta σ H fun x H1=>tb σ H1 fun y H2=>R x y H2) {Q:Qqq} {f:Value→Value→Sem Value}
  (hf:∀v u s2 x y H2,Inv X c_ σ H2 s2→RelV x v→RelV y u→R x y H2→wpAny (model X.prog X.w) X.A (f v u) Q X.xe s2) :
  wpAny (model X.prog X.w) X.A (eval a X.env) (fun v s₁=>wpAny (model X.prog X.w) X.A (eval b X.env) (fun u s₂=>wpAny (model X.prog X.w) X.A (f v u) Q X.xe s₂) X.xe s₁) X.xe s:=by
 refine i6 (ha c_ s σ H _ I h) fun v s1 iF=>?_
 obtain⟨x,H1,I1,r1,q1⟩:=iF
 refine i6 (hb c_ s1 σ H1 _ I1 q1) fun u s2 iF=>?_
 obtain⟨y,H2,I2,r2,q2⟩:=iF
 exact hf v u s2 x y H2 I2 r1 r2 q2
theorem gr{op:Operator}{r:R2}(ho:xp X (binaryOp op) r)(ha:PE X a ta)(hb:PE X b tb):PE X (.BinOp a op b pos) (R6 r ta tb):=by
 intro c_ s σ H Q I h
 exact wpAny_BinOp (OO ha hb I h fun v u s2 x y H2 I2 rx ry q=>ho c_ s2 σ H2 x y v u Q I2 rx ry q)
theorem rJ{op:UnaryOp}{r:V→Hp→VK→Prop}(ho:Wh X (unaryOp op) r)(ha:PE X a ta):PE X (.UnaryOp op a pos) (tUn r ta):=by
 intro c_ s σ H Q I h
 exact UnaryOp_ (i6 (ha c_ s σ H _ I h) fun v s1 ⟨x,H1,I1,r1,q1⟩=>ho c_ s1 σ H1 x v Q I1 r1 q1)
theorem Wj{f:Value→Value→Sem Value}{C:Int→Int→Prop}{g:Int→Int→Int}
  (rule:∀(i j:Int)(t u:Tok)(s:Shared)(Q:Qqq)(E:Qqq),C i j→Q (.int (g i j) s.toks) {s with toks:=s.toks+1}→wpAny (model X.prog X.w) X.A (f (.int i t) (.int j u)) Q E s) :
  xp X f (rI C fun i j=>.int (g i j)):=by
 intro c_ s σ H x y v u Q I rx ry h
 obtain⟨i,j,rfl,rfl,hc,q⟩:=h
 obtain⟨t,rfl⟩:=rx
 obtain⟨t',rfl⟩:=ry
 exact rule i j t t' s _ _ hc ⟨.int (g i j),H,I.tok _,⟨_,rfl⟩,q⟩
theorem R7{f:Value→Value→Sem Value}{g:Int→Int→Int}
  (rule:∀(i j:Int)(t u:Tok)(s:Shared)(Q:Qqq)(E:Qqq),Q (.int (g i j) s.toks) {s with toks:=s.toks+1}→wpAny (model X.prog X.w) X.A (f (.int i t) (.int j u)) Q E s) :
  xp X f (NA fun i j=>.int (g i j)):=by
 intro c_ s σ H x y v u Q I rx ry h
 obtain⟨i,j,rfl,rfl,q⟩:=h
 obtain⟨t,rfl⟩:=rx
 obtain⟨t',rfl⟩:=ry
 exact rule i j t t' s _ _ ⟨.int (g i j),H,I.tok _,⟨_,rfl⟩,q⟩
theorem LX{f:Value→Value→Sem Value}{g:Int→Int→Bool}
  (rule:∀(i j:Int)(t u:Tok)(s:Shared)(Q:Qqq)(E:Qqq),Q (.bool (g i j)) s→wpAny (model X.prog X.w) X.A (f (.int i t) (.int j u)) Q E s) :
  xp X f (NA fun i j=>.bl (g i j)):=by
 intro c_ s σ H x y v u Q I rx ry h
 obtain⟨i,j,rfl,rfl,q⟩:=h
 obtain⟨t,rfl⟩:=rx
 obtain⟨t',rfl⟩:=ry
 exact rule i j t t' s _ _ ⟨.bl (g i j),H,I,rfl,q⟩
def Wk(i j:Int):Prop:=0<j∧j<1073741824
def OP(i j:Int):Prop:=(-(2 ^ 64)<i∧i<2 ^ 64)∨(-(2 ^ 64)<j∧j<2 ^ 64)
theorem OP.ok{i j:Int}(h:OP i j):IntMulOk i j:=by
 rcases h with⟨h1,h2⟩|⟨h1,h2⟩
 ·exact .of_left (intBits_le_64 h1 h2)
 ·exact .of_right (intBits_le_64 h1 h2)
theorem iC:xp X (binaryOp .Add) (NA fun i j=>.int (i+j)):=R7 fun _ _ _ _ _ _ _ q=>add_int q
theorem o8:xp X (binaryOp .Sub) (NA fun i j=>.int (i-j)):=R7 fun _ _ _ _ _ _ _ q=>sub_int q
theorem rK:xp X (binaryOp .Mult) (rI OP fun i j=>.int (i*j)):=Wj fun _ _ _ _ _ _ _ hc q=>mul_int q hc.ok
theorem j7:xp X (binaryOp .FloorDiv) (rI Wk fun i j=>.int (i/j)):=Wj fun i j _ _ _ _ _ hc q=>by
 have h1:(0:Int)<j:=hc.1
 have h2:j<1073741824:=hc.2
 exact floordiv_int (by omega) (by rw[Int.fdiv_eq_ediv_of_nonneg i (by omega)];exact q) (.inl (PyProof.noPylong_small (by omega)))
theorem iN:xp X (binaryOp .Mod) (rI (fun _ j=>0<j) fun i j=>.int (i%j)):=Wj fun i j _ _ _ _ _ hc q=>by
 have h1:(0:Int)<j:=hc
 exact mod_int' (by omega) (by rw[Int.fmod_eq_emod_of_nonneg i (by omega)];exact q)
theorem unI{f:Value→Sem Value}{g:Int→Int}
  (rule:∀(i:Int)(t:Tok)(s:Shared)(Q:Qqq)(E:Qqq),Q (.int (g i) s.toks) {s with toks:=s.toks+1}→wpAny (model X.prog X.w) X.A (f (.int i t)) Q E s) :
  Wh X f (rU fun i=>.int (g i)):=by
 intro c_ s σ H x v Q I rx h
 obtain⟨i,rfl,q⟩:=h
 obtain⟨t,rfl⟩:=rx
 exact rule i t s _ _ ⟨.int (g i),H,I.tok _,⟨_,rfl⟩,q⟩
theorem nO:Wh X (unaryOp .USub) (rU fun i=>.int (-i)):=unI fun _ _ _ _ _ q=>neg_int q
end
noncomputable def OQ:V→V→Bool
 | .jm,.jm=>true|.jm,.int _=>true|.int _,.jm=>true|.jm,.bl _=>true|.bl _,.jm=>true|.jm,.str _=>true|.str _,.jm=>true
 | .int _,.int _=>true|.bl _,.bl _=>true|.str _,.str _=>true|.Fp _,.Fp _=>true
 | .int _,.str _=>true|.str _,.int _=>true|.bl _,.str _=>true|.str _,.bl _=>true
 | _,_=>false
noncomputable def rEq:R2:=fun x y H Q=>OQ x y=true∧Q (.bl (decide (x=y))) H
noncomputable def rNe:R2:=fun x y H Q=>OQ x y=true∧Q (.bl (!decide (x=y))) H
theorem GF{i j:Int}:decide (V.int i=V.int j)=(i ==j):=by
 rw[abF]
 simp
theorem Jh{i j:Bool}:decide (V.bl i=V.bl j)=(i ==j):=by
 rw[abF]
 simp
theorem GG{i j:Str}:decide (V.str i=V.str j)=(i ==j):=by
 rw[abF]
 simp
theorem GH{i j:Array UInt8}:decide (V.Fp i=V.Fp j)=(i.toList ==j.toList):=by
 rw[abF]
 cases i
 cases j
 simp
section
variable{X:Cx}{a b c:Expr}{ta tb tc:TE}{pos:Pos}
theorem iS{c_:Qqz}{σ:St}{H:Hp}{s:Shared}{Q:VK}{k k':Bool}(I:Inv X c_ σ H s)(q:Q (.bl k) H)(e:k=k'):EP X c_ σ Q (.bool k') s:=by
 subst e
 exact⟨.bl k,H,I,rfl,q⟩
theorem l4:xp X (compareOp .Eq) rEq:=by
 intro c_ s σ H x y v u Q I rx ry h
 obtain⟨hs,q⟩:=h
 cases x with
 | jm=>
  cases rx
  cases y with
  | jm=>cases ry;exact PySem.EqNone.eq_none_none (iS I q (by simp))
  | bl j=>cases ry;exact PySem.EqNone.eq_none_bool (iS I q (by simp))
  | int j=>obtain⟨t',rfl⟩:=ry;exact PySem.EqNone.eq_none_int (iS I q (by simp))
  | str j=>obtain⟨t',rfl⟩:=ry;exact PySem.EqNone.eq_none_str (iS I q (by simp))
  | _=>exact absurd (show false=true from hs) aaf
 | bl i=>
  cases rx
  cases y with
  | jm=>cases ry;exact PySem.EqNone.eq_bool_none (iS I q (by simp))
  | bl j=>cases ry;exact eq_bool (iS I q Jh)
  | str j=>obtain⟨t',rfl⟩:=ry;exact PySem.EqMixed.eq_bool_str (iS I q (by simp))
  | _=>exact absurd (show false=true from hs) aaf
 | int i=>
  obtain⟨t,rfl⟩:=rx
  cases y with
  | jm=>cases ry;exact PySem.EqNone.eq_int_none (iS I q (by simp))
  | int j=>obtain⟨t',rfl⟩:=ry;exact eq_int (iS I q GF)
  | str j=>obtain⟨t',rfl⟩:=ry;exact PySem.EqMixed.eq_int_str (iS I q (by simp))
  | _=>exact absurd (show false=true from hs) aaf
 | str i=>
  obtain⟨t,rfl⟩:=rx
  cases y with
  | jm=>cases ry;exact PySem.EqNone.eq_str_none (iS I q (by simp))
  | bl j=>cases ry;exact PySem.EqMixed.eq_str_bool (iS I q (by simp))
  | int j=>obtain⟨t',rfl⟩:=ry;exact PySem.EqMixed.eq_str_int (iS I q (by simp))
  | str j=>obtain⟨t',rfl⟩:=ry;exact eq_str (iS I q GG)
  | _=>exact absurd (show false=true from hs) aaf
 | Fp i=>
  obtain⟨t,rfl⟩:=rx
  cases y with
  | Fp j=>obtain⟨t',rfl⟩:=ry;exact W.eq_bytes (iS I q GH)
  | _=>exact absurd (show false=true from hs) aaf
 | _=>cases y<;>exact absurd (show false=true from hs) aaf
theorem D8:xp X (compareOp .NotEq) rNe:=by
 intro c_ s σ H x y v u Q I rx ry h
 obtain⟨hs,q⟩:=h
 cases x with
 | jm=>
  cases rx
  cases y with
  | jm=>cases ry;exact PySem.EqNone.ne_none_none (iS I q (by simp))
  | bl j=>cases ry;exact PySem.EqNone.ne_none_bool (iS I q (by simp))
  | int j=>obtain⟨t',rfl⟩:=ry;exact PySem.EqNone.ne_none_int (iS I q (by simp))
  | str j=>obtain⟨t',rfl⟩:=ry;exact PySem.EqNone.ne_none_str (iS I q (by simp))
  | _=>exact absurd (show false=true from hs) aaf
 | bl i=>
  cases rx
  cases y with
  | jm=>cases ry;exact PySem.EqNone.ne_bool_none (iS I q (by simp))
  | bl j=>cases ry;exact ne_bool (iS I q (aa6 not Jh))
  | str j=>obtain⟨t',rfl⟩:=ry;exact PySem.EqMixed.ne_bool_str (iS I q (by simp))
  | _=>exact absurd (show false=true from hs) aaf
 | int i=>
  obtain⟨t,rfl⟩:=rx
  cases y with
  | jm=>cases ry;exact PySem.EqNone.ne_int_none (iS I q (by simp))
  | int j=>obtain⟨t',rfl⟩:=ry;exact ne_int (iS I q (aa6 not GF))
  | str j=>obtain⟨t',rfl⟩:=ry;exact PySem.EqMixed.ne_int_str (iS I q (by simp))
  | _=>exact absurd (show false=true from hs) aaf
 | str i=>
  obtain⟨t,rfl⟩:=rx
  cases y with
  | jm=>cases ry;exact PySem.EqNone.ne_str_none (iS I q (by simp))
  | bl j=>cases ry;exact PySem.EqMixed.ne_str_bool (iS I q (by simp))
  | int j=>obtain⟨t',rfl⟩:=ry;exact PySem.EqMixed.ne_str_int (iS I q (by simp))
  | str j=>obtain⟨t',rfl⟩:=ry;exact ne_str (iS I q (aa6 not GG))
  | _=>exact absurd (show false=true from hs) aaf
 | Fp i=>
  obtain⟨t,rfl⟩:=rx
  cases y with
  | Fp j=>obtain⟨t',rfl⟩:=ry;exact W.ne_bytes (iS I q (aa6 not GH))
  | _=>exact absurd (show false=true from hs) aaf
 | _=>cases y<;>exact absurd (show false=true from hs) aaf
theorem D9:xp X (compareOp .Lt) (NA fun i j=>.bl (decide (i<j))):=LX fun _ _ _ _ _ _ _ q=>lt_int q
theorem D_:xp X (compareOp .LtE) (NA fun i j=>.bl (decide (i≤j))):=LX fun _ _ _ _ _ _ _ q=>le_int q
theorem y9:xp X (compareOp .Gt) (NA fun i j=>.bl (decide (j<i))):=LX fun _ _ _ _ _ _ _ q=>gt_int q
theorem Ji:xp X (compareOp .GtE) (NA fun i j=>.bl (decide (j≤i))):=LX fun _ _ _ _ _ _ _ q=>ge_int q
theorem Cc:xp X (compareOp .NotIn) (fun x y H Q=>∃i j,x=.str i∧y=.str j∧Q (.bl (!(!(Builtin.Str.occurrences j i 0 j.length 1).isEmpty))) H):=by
 intro c_ s σ H x y v u Q I rx ry h
 obtain⟨i,j,rfl,rfl,q⟩:=h
 obtain⟨t,rfl⟩:=rx
 obtain⟨t',rfl⟩:=ry
 exact notIn_str (iS I q rfl)
theorem ip(b:Expr){op:CmpOp}(h:op≠.In:=by decide)(h2:op≠.NotIn:=by decide):behindInMarks op b=false:=by
 have e1:(op ==CmpOp.In)=false:=by cases op<;>first|rfl|exact absurd rfl h
 have e2:(op ==CmpOp.NotIn)=false:=by cases op<;>first|rfl|exact absurd rfl h2
 cases b<;>simp[behindInMarks,e1,e2]
theorem Cd{op:CmpOp}{r:R2}(ho:xp X (compareOp op) r)(ha:PE X a ta)(hb:PE X b tb)(hm:behindInMarks op b=false):PE X (.Compare a [op] [b] pos) (R6 r ta tb):=by
 intro c_ s σ H Q I h
 exact wpAny_Compare1 (OO ha hb I h fun v u s2 x y H2 I2 rx ry q=>ho c_ s2 σ H2 x y v u Q I2 rx ry q) hm
def NB(t:TE):TT:=fun σ H Q=>t σ H fun x H'=>∃k,x=.bl k∧Q k H'
theorem ib{op:CmpOp}{r:R2}(ho:xp X (compareOp op) r)(ha:PE X a ta)(hb:PE X b tb)(hm:behindInMarks op b=false):PT X (.Compare a [op] [b] pos) (NB (R6 r ta tb)):=by
 intro c_ s σ H Q I h
 refine wpAny_isTrue_Compare1 (i6 (ha c_ s σ H _ I h) fun v s1 ⟨x,H1,I1,r1,q1⟩=>i6 (hb c_ s1 σ H1 _ I1 q1) fun u s2 ⟨y,H2,I2,r2,q2⟩=>
  i6 (ho c_ s2 σ H2 x y v u _ I2 r1 r2 q2) fun c s3 ⟨z,H3,I3,r3,k,e,q3⟩=>?_) hm
 subst e
 cases r3
 exact abv ⟨H3,I3,q3⟩
def OR(r r':R2)(ta tb tc:TE):TE:=fun σ H Q=>ta σ H fun x H1=>tb σ H1 fun y H2=>r x y H2 fun z H3=>∃k,z=.bl k∧
 (if k=true then tc σ H3 fun w' H4=>r' y w' H4 Q else Q (.bl false) H3)
theorem y_{op Xb:CmpOp}{r r':R2}(ho:xp X (compareOp op) r)(qh:xp X (compareOp Xb) r')(ha:PE X a ta)(hb:PE X b tb)(hc:PE X c tc)
  (hm:lastMarks [op,Xb] [b,c]=false:=by with_unfolding_all rfl):PT X (.Compare a [op,Xb] [b,c] pos) (NB (OR r r' ta tb tc)):=by
 intro c_ s σ H Q I h
 refine isTrue_chain (i6 (ha c_ s σ H _ I h) fun v s1 ⟨x,H1,I1,r1,q1⟩=>test_link (i6 (hb c_ s1 σ H1 _ I1 q1) fun u s2 ⟨y,H2,I2,r2,q2⟩=>
  i6 (ho c_ s2 σ H2 x y v u _ I2 r1 r2 q2) fun d s3 ⟨z,H3,I3,r3,k,e,q3⟩=>?_)) hm
 subst e
 cases r3
 refine abv ?_
 cases k with
 | false=>
  obtain⟨k',e',q'⟩:=q3
  cases e'
  exact ite_ff ⟨H3,I3,q'⟩
 | true=>
  refine ite_tt (test_last (i6 (hc c_ s3 σ H3 _ I3 q3) fun w' s4 iF=>?_))
  obtain⟨z',H4,I4,r4,q4⟩:=iF
  refine i6 (qh c_ s4 σ H4 y z' u w' _ I4 r2 r4 q4) fun d' s5 ID=>?_
  obtain⟨z2,H5,I5,r5,k2,e2,q5⟩:=ID
  subst e2
  cases r5
  exact abv ⟨H5,I5,q5⟩
def R8(K:Qqy)(x:V)(H:Hp)(k:Bool):Prop:=
 match x with
 | .jm=>k=false
 | .bl b=>k=b
 | .int i=>k=(i != 0)
 | .str y=>y.length≤sizeLine∧k=((y.length:Int) != 0)
 | .Fp y=>y.size≤sizeLine∧k=((y.size:Int) != 0)
 | .ref p=>(∃xs,gH K H p xs∧k=!xs.isEmpty)∨(∃xs,rG K H p xs∧k=!xs.isEmpty)∨∃kvs,H p=some (.dK kvs)∧k=!kvs.isEmpty
 | _=>False
theorem Fs{κ:Type}{kvs:List (κ×V)}{vs:List (κ×Value)}(r:KV kvs vs):(!vs.isEmpty)=!kvs.isEmpty:=by
 cases r<;>rfl
theorem za{xs:List V}{h_:List Value}(r:Vals xs h_):(!h_.toArray.isEmpty)=!xs.isEmpty:=by
 cases r<;>simp
theorem ui:(sizeLine:Nat)<2 ^ 63:=by rw[sizeLine_eq];decide
theorem OS:Wi X (fun x H Q=>∃k,R8 X.K x H k∧Q k H):=by
 intro c_ s σ H x v Q I rx h
 obtain⟨k,e,q⟩:=h
 have hl:=ui
 have hs:sizeLine=16777216:=sizeLine_eq
 cases x with
 | jm=>
  cases rx
  have e':k=false:=e
  subst e'
  exact truthy_none ⟨H,I,q⟩
 | bl b=>
  cases rx
  have e':k=b:=e
  subst e'
  exact abv ⟨H,I,q⟩
 | int i=>
  obtain⟨t,rfl⟩:=rx
  have e':k=(i != 0):=e
  subst e'
  exact PySem.P.truthy_int ⟨H,I,q⟩
 | str y=>
  obtain⟨t,rfl⟩:=rx
  obtain⟨hy,e'⟩:y.length≤sizeLine∧k=((y.length:Int) != 0):=e
  subst e'
  exact PySem.P.truthy_str (by omega) ⟨H,I.tok _,q⟩
 | Fp y=>
  obtain⟨t,rfl⟩:=rx
  obtain⟨hy,e'⟩:y.size≤sizeLine∧k=((y.size:Int) != 0):=e
  subst e'
  exact W.truthy_bytes (by omega) ⟨H,I.tok _,q⟩
 | ref p=>
  cases rx
  have e':(∃xs,gH X.K H p xs∧k=!xs.isEmpty)∨(∃xs,rG X.K H p xs∧k=!xs.isEmpty)∨∃kvs,H p=some (.dK kvs)∧k=!kvs.isEmpty:=e
  rcases e' with⟨xs,hx,e'⟩|⟨xs,hx,e'⟩|⟨kvs,hx,e'⟩
  ·subst e'
   obtain⟨h_,r,pl,hz⟩:=I.list hx
   have hlen:=r.length
   exact wpAny_truthy_list pl.isList (by simp only [aai];omega) ⟨H,I.tok _,by rw[za r];exact q⟩
  ·subst e'
   obtain⟨h_,r,pl,hz⟩:=I.tuple hx
   have hlen:=r.length
   exact truthy_tuple pl (by simp only [aai];omega) ⟨H,I.tok _,by rw[za r];exact q⟩
  ·subst e'
   obtain⟨hz,hS,vs,r,m⟩:kvs.length≤sizeLine∧(p ==sysModules)=false∧∃vs,KV kvs vs∧s.heap.DictOf (jg X.prog X.w) p vs:=I.iH p _ hx
   have hlen:kvs.length=vs.length:=aaj r
   exact wpAny_truthy_dict hS m (by omega) ⟨H,I.tok _,by rw[Fs r];exact q⟩
 | _=>exact(show False from e).elim
theorem rL(ha:PE X a ta)(he:∀whole,isTrue a X.env whole=(do let v ←whole;standAt a.pos;holding [v] (truthy v))) :
  PT X a (fun σ H Q=>ta σ H fun x H'=>∃k,R8 X.K x H' k∧Q k H'):=by
 intro c_ s σ H Q I h
 exact isTrue_plain (i6 (ha c_ s σ H _ I h) fun v s1 ⟨x,H1,I1,r1,q1⟩=>OS c_ s1 σ H1 x v Q I1 r1 q1) (he _)
theorem zb:xp X (binaryOp .Add) (fun x y H Q=>∃i j,x=.str i∧y=.str j∧i.length+j.length≤sizeLine∧Q (.str (i++j)) H):=by
 intro c_ s σ H x y v u Q I rx ry h
 obtain⟨i,j,rfl,rfl,hz,q⟩:=h
 obtain⟨t,rfl⟩:=rx
 obtain⟨t',rfl⟩:=ry
 exact add_str (fun t' tk=>⟨.str (i++j),H,I.tok _,⟨_,rfl⟩,q⟩) hz
theorem vals1{x:V}{us:List Value}(r:Vals [x] us):∃u,us=[u]∧RelV x u:=by
 cases r with
 | cons r1 r2=>cases r2;exact⟨_,rfl,r1⟩
theorem vals2{x y:V}{us:List Value}(r:Vals [x,y] us):∃u w',us=[u,w']∧RelV x u∧RelV y w':=by
 cases r with
 | cons r1 r2=>
  cases r2 with
  | cons r3 r4=>cases r4;exact⟨_,_,rfl,r1,r3⟩
theorem Hr(hc:X.calm=true):tQ X (.builtin "max") (fun xs H Q=>∃i j,xs=[.int i,.int j]∧Q (.int (if j>i then j else i)) H):=by
 intro c_ s σ H xs us Q I r h
 obtain⟨i,j,rfl,q⟩:=h
 obtain⟨u,w',rfl,⟨t,rfl⟩,⟨t',rfl⟩⟩:=vals2 r
 refine max_two_ints (I.ok.hd hc) fun h' tk k=>⟨_,H,I.kept k,?_,q⟩
 by_cases hj:j>i
 ·rw[aar hj,aar hj];exact⟨_,rfl⟩
 ·rw[aap hj,aap hj];exact⟨_,rfl⟩
end
structure Ft(h:Heap)(x dx C:Addr)(mA:Qqx):Prop where
 obj:h.get? x=some (W.instObj C dx)
 ns:h.Ns1 dx mA
 ne:dx≠x
theorem Hs{h:Heap}{dx:Addr}{mA:Qqx}(n:h.Ns1 dx mA):∃od,h.get? dx=some od∧∀name,W.lookIn name od=some (mA name):=by
 obtain⟨o,es,ep,ho,hd,hk,_,hm⟩:=n
 refine⟨o,ho,fun name=>?_⟩
 have e:=hm name
 unfold nsFind findBy at e
 rw[←Array.find?_toList] at e
 unfold W.lookIn
 rw[hd]
 dsimp only
 split
 ·rename_i y q
  rw[q] at e
  exact aa6 some e
 ·rename_i q
  rw[q] at e
  have a:es.toList.any (·.refKey)=false:=by
   rw[List.any_eq_false]
   intro y hy
   obtain⟨z,t,Qp⟩:=hk y (Array.mem_toList_iff.mp hy)
   simp[DictEntry.refKey,Qp]
  have a':¬es.toList.any (·.refKey)=true:=by rw[a];exact aaf
  rw[aap a']
  exact aa6 some e
theorem Ft.look{h:Heap}{x dx C:Addr}{mA:Qqx}(I:Ft h x dx C mA):∃od,W.InstAt h x (W.instObj C dx) C (some od)∧∀name,W.lookIn name od=some (mA name):=
 let ⟨od,ho,hl⟩:=Hs I.ns
 ⟨od,⟨I.obj,rfl,rfl,ho⟩,hl⟩
section
variable{prog:Program}{w:World}{A:Around}{E:Qqq}{s:Shared}{K:Qqy}{x dx C f:Addr}{mA:Qqx}{name:Str}{v:Value}
theorem get_map{expr:Bool}{Q:Qqq}(X:K.In s.heap)(I:Ft s.heap x dx C mA)(hg:W.plainGet K C name=true)(hh:W.hasDictIn K C=true)
  (ha:W.findIn K (.ref C) name=some none) (hv:mA name=some v) (hv':W.handedIn v=true) (h:Q v {s with toks:=s.toks+1}) :
  wpAny (model prog w) A (getAttr (.ref x) name expr) Q E s:=by
 obtain⟨od,J,hl⟩:=I.look
 exact W.get_value X J (W.plainGet_of hg).1 (W.findObj_own hh ha rfl (by rw[hl,hv])) hv' h
theorem Jj{pl:Sem Bool}{Q:Value×List Value→Shared→Prop}(X:K.In s.heap)(I:Ft s.heap x dx C mA)(hg:W.plainGet K C name=true)
  (hf:W.findIn K (.ref C) name=some (some (.ref f))) (ht:W.isFn K (.ref f)=true) (hv:mA name=none) (h:Q (.ref f,[.ref x]) s) :
  wpAny (model prog w) A (getMethod (.ref x) name pl) Q E s:=by
 obtain⟨od,J,hl⟩:=I.look
 exact W.method_fn X J (W.plainGet_of hg).1 (W.plainGet_of hg).2 hf (ab5.mp ht) (by show(W.lookIn name od).map (·.isSome)=some false;rw[hl,hv];rfl) h
theorem LY{ns:List Str}{Q:Unit→Shared→Prop}(X:K.In s.heap)(I:Ft s.heap x dx C mA)
  (hs:W.findIn K (.ref C) "__setattr__"=some (some (.builtin "object.__setattr__"))) (hp:W.plainOver K C=true) (ht:W.takerIn K C name=some none) (hh:W.hasDictIn K C=true)
  (hw:PySem.Within mA ns) (hsz:ns.length≤sizeLine)
  (h:∀h',Ft h' x dx C (fun y=>if y=name then some v else mA y)→Heap.SameBut dx s.heap h'→Q () {s with heap:=h',toks:=s.toks+2}) :
  wpAny (model prog w) A (setAttr (.ref x) name v) Q E s:=by
 obtain⟨od,J,hl⟩:=I.look
 refine W.set_plain X J hs (W.osa_open (s:={s with toks:=s.toks+1}) (r:=none) X J hp ht fun b=>?_)
 obtain⟨cd,hc,W6⟩:=W.any_some hh
 have hx:s.heap.get? x=some ⟨.ref C,some dx,.plain,#[]⟩:=I.obj
 refine T1 (aag (T1 (T1 (wpAny_loadPart hx (T1 (W.Looks.here (s:={s with toks:=s.toks+1}) (W.looks_clsIn X hc) ?_))))))
 rw[W6]
 refine aag (a:=some dx) (T1 (aag (T1 ?_)))
 refine wpAny_nsSet1 (s:={s with toks:=s.toks+1}) I.ns fun h' Qq Bn=>?_
 obtain⟨oD,esD,epD,hoD,hdD,hcD⟩:=Qq.count (PySem.Within.cons name v hw)
 refine T1 (wpAny_lookBehind hoD (by rw[hdD];exact pastItsLine_dict (XI hcD (by rw[aac];omega))) ?_)
 exact aag (h _ ⟨(Bn.2 _ (abK I.ne)).trans I.obj,Qq,I.ne⟩ Bn)
theorem Jk{R:Result→Shared→Prop}{vs:List Value}{kw:List (Str×Value)}(X:K.In s.heap)(hm:W.makesIn K C=true)
  (hi:W.findIn K (.ref C) "__init__"=some (some (.ref f))) (hf:W.typeIn K (.ref f)=some (.type "function"))
  (h:codeAny (model prog w) (A.under (.builtin "type.__call__" ⟨.ref C::vs,kw⟩)) (.call (.ref f) ⟨.ref (s.heap.objs.size+1)::vs,kw⟩) (W.InitBack (s.heap.objs.size+1) R)
   {s with heap:=(s.heap.push W.emptyDict).push (W.instObj C s.heap.objs.size)}) :
  codeAny (model prog w) A (.call (.ref C) ⟨vs,kw⟩) R s:=by
 obtain⟨hh,g,d,t,os⟩:=s
 exact W.make_core (W.makes_of X hm) (W.looks_findIn X hi) (fun self=>W.bind_fn X self hf) (.inl rfl) h
end
noncomputable def jF(f:Str)(v:V):List (Str×V)→List (Str×V)
 | []=>[(f,v)]
 | (g,x)::r=>if g=f then(g,v)::r else(g,x)::jF f v r
theorem xq(f g:Str)(v:V):∀fs:List (Str×V),(jF f v fs).lookup g=if g=f then some v else fs.lookup g
 | []=>by
  show List.lookup g [(f,v)]=_
  by_cases h:g=f
  ·have hb:(g ==f)=true:=ab5.mpr h
   simp only [List.lookup,hb,aar h]
  ·have hb:(g ==f)=false:=beq_eq_false_iff_ne.mpr h
   simp only [List.lookup,hb,aap h]
 | (k,x)::r=>by
  have ih:=xq f g v r
  rw[show jF f v ((k,x)::r)=(if k=f then(k,v)::r else(k,x)::jF f v r) from rfl]
  by_cases hk:k=f
  ·rw[aar hk]
   by_cases h:g=k
   ·have hb:(g ==k)=true:=ab5.mpr h
    simp only [List.lookup,hb,aar (h.trans hk)]
   ·have hb:(g ==k)=false:=beq_eq_false_iff_ne.mpr h
    simp only [List.lookup,hb,aap (fun e:g=f=>h (e.trans hk.symm))]
  ·rw[aap hk]
   by_cases h:g=k
   ·have hb:(g ==k)=true:=ab5.mpr h
    simp only [List.lookup,hb,aap (fun e:g=f=>hk (h.symm.trans e))]
   ·have hb:(g ==k)=false:=beq_eq_false_iff_ne.mpr h
    simp only [List.lookup,hb]
    exact ih
theorem wj(f:Str)(v:V):∀fs:List (Str×V),f∈(jF f v fs).map (·.1)∧∀g,g∈fs.map (·.1)→g∈(jF f v fs).map (·.1)
 | []=>⟨by simp[jF],fun g h=>by simp at h⟩
 | (k,x)::r=>by
  obtain⟨i1,i2⟩:=wj f v r
  rw[show jF f v ((k,x)::r)=(if k=f then(k,v)::r else(k,x)::jF f v r) from rfl]
  by_cases hk:k=f
  ·rw[aar hk]
   subst hk
   exact⟨by simp,fun g h=>by simpa using h⟩
  ·rw[aap hk]
   refine⟨?_,fun g h=>?_⟩
   ·rw[aax]
    exact aae _ i1
   ·rw[aax] at h ⊢
    rcases Z8.mp h with e|e
    ·exact Z8.mpr (.inl e)
    ·exact aae _ (i2 g e)
theorem xr(f:Str)(v:V):∀fs:List (Str×V),(jF f v fs).length≤fs.length+1
 | []=>by simp[jF]
 | (k,x)::r=>by
  have ih:=xr f v r
  rw[show jF f v ((k,x)::r)=(if k=f then(k,v)::r else(k,x)::jF f v r) from rfl]
  by_cases hk:k=f
  ·rw[aar hk,aac,aac];omega
  ·rw[aap hk,aac,aac];omega
theorem pG.some_of{v:V}{o:Option Value}(r:pG (some v) o):∃u,o=some u∧RelV v u:=by
 cases o with
 | none=>exact(show False from r).elim
 | some u=>exact⟨u,rfl,r⟩
theorem pG.none_of{o:Option Value}(r:pG none o):o=none:=by
 cases o with
 | none=>rfl
 | some u=>exact(show False from r).elim
theorem Ht{v:V}{u:Value}(r:RelV v u):W.handedIn u=true:=by
 cases v with
 | jm=>cases (show u=Value.none from r);rfl
 | bl b=>cases (show u=Value.bool b from r);rfl
 | int i=>obtain⟨t,e⟩:=(show ∃t,u=Value.int i t from r);cases e;rfl
 | str x=>obtain⟨t,e⟩:=(show ∃t,u=Value.str x t from r);cases e;rfl
 | Fp b=>obtain⟨t,e⟩:=(show ∃t,u=Value.bytes b t from r);cases e;rfl
 | Nw b=>obtain⟨t,e⟩:=(show ∃t,u=Value.float b t from r);cases e;rfl
 | ref a=>cases (show u=Value.ref a from r);rfl
 | ty n=>cases (show u=Value.type n from r);rfl
section
variable{P:Program}{w:World}{H H':Hp}{h h':Heap}{a C dx:Addr}{fs fs':List (Str×V)}
theorem yM(iH:rC P w H h)(e:H a=some (.ins C dx fs)):∃mA,Ft h a dx C mA∧(∀f,pG (fs.lookup f) (mA f))∧PySem.Within mA (fs.map (·.1))∧fs.length≤1000∧H dx=some (.own a):=by
 obtain⟨d,z,ne,ob,mA,n,r,q⟩:=(show iY P w H h a (.ins C dx fs) from iH a _ e)
 exact⟨mA,⟨ob,n,ne⟩,r,q,z,d⟩
end
structure Fn(K:Qqy)(C:Addr):Prop where
 pg:W.plainGet K C Str.empty=true
 hd:W.hasDictIn K C=true
 po:W.plainOver K C=true
 sa:W.findIn K (.ref C) "__setattr__"=some (some (.builtin "object.__setattr__"))
theorem Fn.get{K:Qqy}{C:Addr}(c:Fn K C)(f:Str):W.plainGet K C f=true:=c.pg
def jU(K:Qqy)(C:Addr)(f:Str):Prop:=W.findIn K (.ref C) f=some none
theorem jU.R9{K:Qqy}{C:Addr}{f:Str}(n:jU K C f):W.takerIn K C f=some none:=by
 unfold W.takerIn
 rw[show W.findIn K (.ref C) f=some none from n]
 rfl
structure Meth(K:Qqy)(C:Addr)(m:Str)(f:Addr):Prop where
 at_:W.findIn K (.ref C) m=some (some (.ref f))
 fn:W.isFn K (.ref f)=true
 kp:W.keepIn K (.ref f)=true
section
variable{X:Cx}{c_:Qqz}{σ:St}{H:Hp}{s:Shared}{a C dx:Addr}{fs:List (Str×V)}{f:Str}{v:V}{A:Around}{E:Qqq}
theorem Fu{b:Bool}{Q:Qqq}(I:Inv X c_ σ H s)(e:H a=some (.ins C dx fs))(c:Fn X.K C)(n:jU X.K C f)(l:fs.lookup f=some v)
  (h:∀u s',Inv X c_ σ H s'→RelV v u→Q u s'):wpAny (model X.prog X.w) A (getAttr (.ref a) f b) Q E s:=by
 obtain⟨mA,O,r,_,_,_⟩:=yM I.iH e
 obtain⟨u,hu,ru⟩:=pG.some_of (v:=v) (o:=mA f) (by rw[←l];exact r f)
 exact get_map I.xo O (c.get f) c.hd n hu (Ht ru) (h u _ (I.tok _) ru)
theorem zc{m:Str}{g:Addr}{pl:Sem Bool}{Q:Value×List Value→Shared→Prop}(I:Inv X c_ σ H s)(e:H a=some (.ins C dx fs))(c:Fn X.K C)(k:Meth X.K C m g)(l:fs.lookup m=none)
  (h:Q (.ref g,[.ref a]) s):wpAny (model X.prog X.w) A (getMethod (.ref a) m pl) Q E s:=by
 obtain⟨mA,O,r,_,_,_⟩:=yM I.iH e
 have hn:mA m=none:=pG.none_of (by rw[←l];exact r m)
 exact Jj I.xo O (c.get m) k.at_ k.fn hn h
theorem Fv{y:V}{u:Value}{Q:Unit→Shared→Prop}(I:Inv X c_ σ H s)(e:H a=some (.ins C dx fs))(c:Fn X.K C)(n:jU X.K C f)(hl:fs.length<1000)(ry:RelV y u)
  (h:∀s',Inv X c_ σ (upd H a (.ins C dx (jF f y fs))) s'→Q () s'):wpAny (model X.prog X.w) A (setAttr (.ref a) f u) Q E s:=by
 obtain⟨mA,O,r,wi,_,ho⟩:=yM I.iH e
 have hz:(fs.map (·.1)).length≤sizeLine:=by rw[TU,sizeLine_eq];omega
 refine LY I.xo O c.sa c.po n.R9 c.hd wi hz fun h' O' sb=>h _ ?_
 have hd:∃o,h'.get? dx=some o:=let ⟨o,_,_,e',_⟩:=O'.ns;⟨o,e'⟩
 refine I.write (x:=a) (e:=dx) (by rw[e];exact True.intro) (.inr ho) (fun b q hb z=>(sb.2 b hb).trans z) hd ?_
 refine⟨by rw[e_ O.ne];exact ho,?_,O.ne,O'.obj,_,O'.ns,fun g=>?_,fun g hg=>?_⟩
 ·have:=xr f y fs;omega
 ·show pG ((jF f y fs).lookup g) (if g=f then some u else mA g)
  rw[xq]
  by_cases q:g=f
  ·rw[aar q,aar q];exact ry
  ·rw[aap q,aap q];exact r g
 ·by_cases q:g=f
  ·rw[q];exact(wj f y fs).1
  ·refine(wj f y fs).2 g (wi g fun z=>hg ?_)
   show(if g=f then some u else mA g)=none
   rw[aap q];exact z
theorem Inv.made(I:Inv X c_ σ H s):Inv X c_ σ (upd (upd H s.heap.objs.size (.own (s.heap.objs.size+1))) (s.heap.objs.size+1) (.ins C s.heap.objs.size []))
  {s with heap:=(s.heap.push W.emptyDict).push (W.instObj C s.heap.objs.size)}:=by
 have e1:(s.heap.push W.emptyDict).get? s.heap.objs.size=some W.emptyDict:=aav s.heap rfl
 have e2:((s.heap.push W.emptyDict).push (W.instObj C s.heap.objs.size)).get? (s.heap.objs.size+1)=some (W.instObj C s.heap.objs.size):=by
  have:=aav (s.heap.push W.emptyDict) (o:=W.instObj C s.heap.objs.size) rfl
  rwa [Heap.size_push] at this
 have e3:(s.heap.push W.emptyDict).Ns s.heap.objs.size (fun _=>none):=⟨W.emptyDict,#[],_,e1,rfl,(fun e he=>absurd he (by simp)),fun _=>rfl⟩
 have I1:=I.laid (a:=s.heap.objs.size) (o:=.own (s.heap.objs.size+1)) (h':=s.heap.push W.emptyDict) (t':=s.toks) (fun b u q=>aab _ q) (WL _) ⟨_,e1⟩
 refine I1.laid (a:=s.heap.objs.size+1) (o:=.ins C s.heap.objs.size []) (t':=s.toks) (fun b u q=>aab _ q) (Nat.le_of_eq (Heap.size_push _ _)) ?_
 have ne:s.heap.objs.size≠s.heap.objs.size+1:=aaU (ab2 _)
 refine⟨by rw[e_ ne,b_],aaz _,ne,e2,fun _=>none,(Heap.Ns1.of_empty e3).at fun o q=>aab _ q,fun _=>True.intro,fun y hy=>absurd rfl hy⟩
theorem LZ{prog:Program}{w:World}{env:Env}{e:Expr}{f:Str}{pos:Pos}{s:Shared}{Q:Qqq}(hb:attributeBase e f env (eval e env)=eval e env)
  (h:wpAny (model prog w) A (eval e env) (fun o s₁=>wpAny (model prog w) A (getAttr o f true) Q E s₁) E s):wpAny (model prog w) A (eval (.Attribute e f pos) env) Q E s:=
 Attribute_any_ h (by rw[arm_eval_Attribute,hb])
end
def Wl(K:Qqy)(ta:TE)(f:Str):TE:=fun σ H Q=>ta σ H fun x H1=>∃a C dx fs v,x=.ref a∧H1 a=some (.ins C dx fs)∧Fn K C∧jU K C f∧fs.lookup f=some v∧Q v H1
def Wm(K:Qqy)(ta tv:TE)(f:Str):TS:=fun D σ H=>tv σ H fun y H1=>ta σ H1 fun x H2=>∃a C dx fs,x=.ref a∧H2 a=some (.ins C dx fs)∧Fn K C∧jU K C f∧fs.length<1000∧
 D.nx σ (upd H2 a (.ins C dx (jF f y fs)))
section
variable{X:Cx}{o e value:Expr}{f:Str}{pos pos' Qr:Pos}{ta tv:TE}
theorem gC(he:PE X e ta)(hb:attributeBase e f X.env (eval e X.env)=eval e X.env):PE X (.Attribute e f pos) (Wl X.K ta f):=by
 intro c_ s σ H Q I h
 refine LZ hb (i6 (he c_ s σ H _ I h) fun u s1 iF=>?_)
 obtain⟨x,H1,I1,rx,a,C,dx,fs,v,ex,ea,c,n,l,q⟩:=iF
 subst ex
 obtain rfl:u=Value.ref a:=rx
 exact Fu I1 ea c n l fun u' s2 I2 ru=>⟨v,H1,I2,ru,q⟩
theorem lB(ha:PE X o ta)(hv:PE X value tv)(hs:swapsWith value (some (.Attribute o f pos')) pos.line X.env=pure false):PS X (.Assign [.Attribute o f pos'] value pos) (Wm X.K ta tv f):=by
 intro c_ s σ H D I h
 refine plainObj_wpAny_Assign_Attribute (i6 (hv c_ s σ H _ I h) fun u s1 iF=>?_) hs
 obtain⟨y,H1,I1,ry,q⟩:=iF
 refine i6 (ha c_ s1 σ H1 _ I1 q) fun ov s2 ID=>?_
 obtain⟨x,H2,I2,rx,a,C,dx,fs,ex,ea,c,n,l,q2⟩:=ID
 subst ex
 obtain rfl:ov=Value.ref a:=rx
 exact Fv I2 ea c n l ry fun s3 I3=>⟨σ,_,I3,q2⟩
end
section
variable{X:Cx}{c_:Qqz}{σ:St}{H:Hp}{s:Shared}{A:Around}{E:Qqq}{Q:Qqq}{c:Value}{b:Bool}
inductive wk(K:Qqy)(H:Hp):V→Value→Prop where
 | jm:wk K H .jm (.type "NoneType")
 | bl (x:Bool):wk K H (.bl x) (.type "bool")
 | int (i:Int):wk K H (.int i) (.type "int")
 | str (x:Str):wk K H (.str x) (.type "str")
 | Nw (x:UInt64):wk K H (.Nw x) (.type "float")
 | lst {a:Addr} {xs:List V} (e:H a=some (.lst xs)):wk K H (.ref a) (.type "list")
 | nq {a:Addr} {o:Obj} {xs:List V} (e:H a=some (.nq o (.lst xs))):wk K H (.ref a) (.type "list")
 | tup {a:Addr} {xs:List V} (e:H a=some (.tup xs)):wk K H (.ref a) (.type "tuple")
 | dK {a:Addr} {kvs:List (Key×V)} (e:H a=some (.dK kvs)):wk K H (.ref a) (.type "dict")
 | dT {a:Addr} {kvs:List (List Key×V)} (e:H a=some (.dT kvs)):wk K H (.ref a) (.type "dict")
 | ins {a C dx:Addr} {fs:List (Str×V)} (e:H a=some (.ins C dx fs)) (cl:Fn K C) (ha:W.findIn K (.ref C) "__class__"=some (some (.builtin "object.__class__")))
  (hn:W.specialIn K (.builtin "object.__class__") "__get__"=some (some (.builtin "getset_descriptor.__get__"))) (htk:W.takesIn K (.builtin "object.__class__")=some true)
  (hm:W.mroIn K C (.type "object")=some true):wk K H (.ref a) (.ref C)
theorem Hu{x:V}{u t:Value}(I:Inv X c_ σ H s)(rx:RelV x u)(ty:wk X.K H x t)(e:W.kitOne X.K t c=some b)(h:∀tk,Q (.bool b) {s with toks:=tk}) :
  wpAny (model X.prog X.w) A (call (.builtin "isinstance") [u,c]) Q E s:=by
 cases ty with
 | jm=>cases (show u=Value.none from rx);exact abo W.kitx_none I.xo True.intro e (fun z=>nomatch z) h
 | bl y=>cases (show u=Value.bool y from rx);exact abo W.kitx_bool I.xo True.intro e (fun z=>nomatch z) h
 | int i=>obtain⟨t,q⟩:=(show ∃t,u=Value.int i t from rx);cases q;exact abo W.kitx_int I.xo True.intro e (fun z=>nomatch z) h
 | str y=>obtain⟨t,q⟩:=(show ∃t,u=Value.str y t from rx);cases q;exact abo W.kitx_str I.xo True.intro e (fun z=>nomatch z) h
 | Nw y=>obtain⟨t,q⟩:=(show ∃t,u=Value.float y t from rx);cases q;exact abo W.kitx_float I.xo True.intro e (fun z=>nomatch z) h
 | @lst a xs ea=>
  cases (show u=Value.ref a from rx)
  obtain⟨_,_,n,_,h1⟩:=(show iY X.prog X.w H s.heap a (.lst xs) from I.iH a _ ea)
  exact abo W.kitx_list I.xo ⟨_,h1,rfl⟩ e (fun z=>nomatch z) h
 | @nq a ob xs ea=>
  cases (show u=Value.ref a from rx)
  obtain⟨_,_,_,n,_,h1⟩:=(show iY X.prog X.w H s.heap a (.nq ob (.lst xs)) from I.iH a _ ea)
  exact abo W.kitx_list I.xo ⟨_,h1,rfl⟩ e (fun z=>nomatch z) h
 | @tup a xs ea=>
  cases (show u=Value.ref a from rx)
  obtain⟨_,_,_,p⟩:=(show iY X.prog X.w H s.heap a (.tup xs) from I.iH a _ ea)
  obtain⟨o,h1,h2,_⟩:=p
  exact abo W.kitx_tuple I.xo ⟨o,h1,h2⟩ e (fun z=>nomatch z) h
 | @dK a kvs ea=>
  cases (show u=Value.ref a from rx)
  obtain⟨_,_,vs,_,p⟩:=(show iY X.prog X.w H s.heap a (.dK kvs) from I.iH a _ ea)
  obtain⟨o,es,ep,h1,h2,_⟩:=p
  exact abo W.kitx_dict I.xo ⟨o,h1,h2.1⟩ e (fun z=>nomatch z) h
 | @dT a kvs ea=>
  cases (show u=Value.ref a from rx)
  obtain⟨_,_,xs,_,o,es,ep,h1,h2,_⟩:=(show iY X.prog X.w H s.heap a (.dT kvs) from I.iH a _ ea)
  exact abo W.kitx_dict I.xo ⟨o,h1,h2.1⟩ e (fun z=>nomatch z) h
 | @ins a C dx fs ea cl ha hn htk hm=>
  cases (show u=Value.ref a from rx)
  obtain⟨mA,O,_⟩:=yM I.iH ea
  obtain⟨od,J,_⟩:=O.look
  exact abo (W.kitx_own (cl.get _) cl.hd ha hn htk hm) I.xo J e (fun z=>nomatch z) h
end
structure kE(k:Nat)(A:Around):Prop where
 hd:A.handled=none
 dp:A.depth+3*k+5<recursionLimit
 un:A.units+16*k+200<cLine
theorem kE.mono{j k:Nat}{A:Around}(r:kE k A)(h:j≤k):kE j A:=⟨r.hd,by have:=r.dp;omega,by have:=r.un;omega⟩
theorem kE.deeper{k:Nat}{A:Around}(r:kE (k+1) A)(env:Env):kE k (A.deeper env):=
 ⟨r.hd,by have:=r.dp;show A.depth+1+3*k+5<_;omega,by have:=r.un;show A.units+3+16*k+200<_;omega⟩
theorem Fw{A:Around}{C:Addr}{us:List Value}{kw:List (Str×Value)}:(A.under (.builtin "type.__call__" ⟨.ref C::us,kw⟩)).depth=A.depth+1:=by
 first|rfl|simp[Around.under,Code.weight,Code.isCreation,Code.isGuard,Code.isCaller,Code.frames,Code.isFrame,guardIds]
theorem Fx{A:Around}{C:Addr}{us:List Value}{kw:List (Str×Value)}:(A.under (.builtin "type.__call__" ⟨.ref C::us,kw⟩)).units=A.units+1:=by
 first|rfl|simp[Around.under,Code.cUnits,Code.frames,Code.isFrame]
theorem kE.make{k:Nat}{A:Around}(r:kE (k+1) A)(C:Addr)(us:List Value)(kw:List (Str×Value)):kE k (A.under (.builtin "type.__call__" ⟨.ref C::us,kw⟩)):=
 ⟨r.hd,by have:=r.dp;rw[Fw];omega,by have:=r.un;rw[Fx];omega⟩
theorem kE.depth{k:Nat}{A:Around}(r:kE k A):A.depth<recursionLimit:=by have:=r.dp;omega
theorem kE.units{k:Nat}{A:Around}(r:kE k A):A.units+64<cLine:=by have:=r.un;omega
def OT:TA:=fun _ H Q=>Q [] H
def R_(ta:TE)(tr:TA):TA:=fun σ H Q=>ta σ H fun x H1=>tr σ H1 fun xs H2=>Q (x::xs) H2
section
variable{X:Cx}{e:Expr}{es:List Expr}{te:TE}{t:TA}{pos:Pos}
theorem d_:PA X [] OT:=fun _ _ _ _ H Q I h=>abB ⟨[],H,I,.nil,h⟩
theorem a_(ha:PE X e te)(hr:PA X es t)(hs:starEach (e::es) X.env=(false,eval e X.env)::starEach es X.env:=by rfl):PA X (e::es) (R_ te t):=by
 intro pos c_ s σ H Q I h
 rw[hs]
 show wpAny _ _ (spliced ((false,eval e X.env)::backTo pos (starEach es X.env))) _ _ s
 refine abj (i6 (ha c_ s σ H _ I h) fun u s1 iF=>?_)
 obtain⟨x,H1,I1,r1,q1⟩:=iF
 exact i6 (hr pos c_ s1 σ H1 _ I1 q1) fun us s2 ⟨xs,H2,I2,r2,q2⟩=>⟨x::xs,H2,I2,.cons r1 r2,q2⟩
def Wn(t:TA):TE:=fun σ H Q=>t σ H fun xs H1=>xs.length≤sizeLine∧∀p,H1 p=none→Q (.ref p) (upd H1 p (.tup xs))
def Wo(t:TA):TE:=fun σ H Q=>t σ H fun xs H1=>xs.length≤sizeLine∧∀p,H1 p=none→Q (.ref p) (upd H1 p (.lst xs))
theorem rM{x1}(h:PA X es t):PE X (.Tuple es x1 pos) (Wn t):=by
 intro c_ s σ H Q I hq
 refine wpAny_Tuple_spliced (i6 (h pos c_ s σ H _ I hq) fun us s1 iF=>?_)
 obtain⟨xs,H1,I1,r,z,q⟩:=iF
 refine⟨by rw[←r.length];exact z,?_⟩
 have hf:H1 s1.heap.objs.size=none:=I1.iH.fresh (WL _)
 refine⟨.ref s1.heap.objs.size,upd H1 s1.heap.objs.size (.tup xs),I1.laid (t':=s1.toks) (fun b u e=>aab _ e) (WL _) ?_,rfl,q _ hf⟩
 exact⟨z,us,r,⟨_,aav _ rfl,rfl,_,rfl⟩⟩
theorem iO(h:PA X es t):PE X (.List es pos) (Wo t):=by
 intro c_ s σ H Q I hq
 refine wpAny_List_spliced (i6 (h pos c_ s σ H _ I hq) fun us s1 iF=>?_)
 obtain⟨xs,H1,I1,r,z,q⟩:=iF
 refine⟨by rw[←r.length];exact z,?_⟩
 have hf:H1 s1.heap.objs.size=none:=I1.iH.fresh (WL _)
 refine⟨.ref s1.heap.objs.size,upd H1 s1.heap.objs.size (.lst xs),I1.laid (t':=s1.toks) (fun b u e=>aab _ e) (WL _) ?_,rfl,q _ hf⟩
 exact⟨z,us,0,r,aav _ rfl⟩
end
abbrev Sp:=List V→Hp→VK→XK→Prop
abbrev GI:=List Env→Hp→Shared→XK→Qqq
structure Fy(P:Program)(w:World)(K:Qqy)(mg:Qqx)(base:Heap)(A:Around)(outer:List Env)(s:Shared)(H:Hp):Prop where
 frames:A.frames=some outer
 mod:Mod K mg base
 bs:∀b o,base.get? b=some o→s.heap.get? b=some o∧H b=none
 LV:base.objs.size≤s.heap.objs.size
 uQ:s.heap.FunFrames base outer
 Ny:∀b∈ue outer,H b=none
 iH:rC P w H s.heap
 bare:AllBare s.gens
def CE(outer:List Env)(P:Program)(w:World)(H:Hp)(s:Shared)(Q:VK)(u:Value)(s':Shared):Prop:=
 ∃v H',s'.os=s.os∧AllBare s'.gens∧Un (ue outer) [] H H' s.heap s'.heap∧rC P w H' s'.heap∧RelV v u∧Q v H'
def CR(CX:GI)(outer:List Env)(P:Program)(w:World)(H:Hp)(s:Shared)(Q:VK)(E:XK)(r:Result)(s':Shared):Prop:=
 match r with
 | .ok (.ret u)=>CE outer P w H s Q u s'
 | .ok _=>False
 | .error e=>CX outer H s E e s'
structure ij(P:Program)(w:World)(K:Qqy)(mg:Qqx)(base:Heap)(CX:GI)(k:Nat)(f:Addr)(fd:FuncData)(ps:List Str)(sp:Sp):Prop where
 len:∀vs H Q E,sp vs H Q E→vs.length=ps.length
 run:∀(A:Around)(outer:List Env)(s:Shared)(H:Hp)(args:Args)(us:List Value)(vs:List V)(Q:VK)(E:XK),kE k A→Fy P w K mg base A outer s H→BindsTo s fd args (ps.zip us)→Vals vs us→sp vs H Q E→
  codeAny (model P w) A (.call (.ref f) args) (CR CX outer P w H s Q E) s
theorem ij.mono{P:Program}{w:World}{K:Qqy}{mg:Qqx}{base:Heap}{CX:GI}{j k:Nat}{f:Addr}{fd:FuncData}{ps:List Str}{sp:Sp}(F:ij P w K mg base CX j f fd ps sp)(h:j≤k) :
 ij P w K mg base CX k f fd ps sp:=⟨F.len,fun A outer s H args us vs Q E hr=>F.run A outer s H args us vs Q E (hr.mono h)⟩
theorem Fy.make{P:Program}{w:World}{K:Qqy}{mg:Qqx}{base:Heap}{A:Around}{outer:List Env}{s:Shared}{H:Hp}(e:Fy P w K mg base A outer s H)(C:Addr)(us:List Value)(kw:List (Str×Value)) :
 Fy P w K mg base (A.under (.builtin "type.__call__" ⟨.ref C::us,kw⟩)) outer s H:=⟨by first|exact e.frames|(simpa[Around.under,Code.envs,Code.isFrame,pushEnvs] using e.frames),e.mod,e.bs,e.LV,e.uQ,e.Ny,e.iH,e.bare⟩
section
variable{X:Cx}{c_:Qqz}{σ:St}{H:Hp}{s s':Shared}
theorem Inv.Sb(I:Inv X c_ σ H s):Fy X.prog X.w X.K X.mg X.base X.A X.stack s H:=
 ⟨I.ok.frames,I.ok.mod,I.bs,XI I.ok.LV I.sz,I.stack,I.Ca,I.iH,I.bare⟩
theorem Inv.after{Q:VK}{u:Value}(I:Inv X c_ σ H s)(h:CE X.stack X.prog X.w H s Q u s'):EP X c_ σ Q u s':=by
 obtain⟨v,H',os,bare,un,iH,r,q⟩:=h
 obtain⟨hh,g,d,t,os'⟩:=s'
 obtain rfl:os'=s.os:=os
 exact⟨v,H',I.call (h':=hh) (g':=g) (d':=d) (t':=t) (ch:=[]) un iH bare (fun b z=>absurd z (by simp)),r,q⟩
end
def Jl(sp:Sp)(yW:List V)(E:XK)(t:TA):TE:=fun σ H Q=>t σ H fun vs H1=>sp (vs++yW) H1 Q E
def GJ(C:Addr)(m:Str)(sp:Sp)(yW:List V)(E:XK)(ta:TE)(t:TA):TE:=fun σ H Q=>ta σ H fun x H1=>∃a dx fs,x=.ref a∧H1 a=some (.ins C dx fs)∧fs.lookup m=none∧
 t σ H1 fun vs H2=>sp (x::(vs++yW)) H2 Q E
def NC(C:Addr)(sp:Sp)(yW:List V)(E:XK)(t:TA):TE:=fun σ H Q=>t σ H fun vs H1=>∀x dx,H1 x=none→H1 dx=none→dx≠x→
 sp (.ref x::(vs++yW)) (upd (upd H1 dx (.own x)) x (.ins C dx [])) (fun v H2=>v=.jm∧Q (.ref x) H2) E
def Binds(K:Qqy)(fd:FuncData)(ps:List Str)(ds:List Value):Prop:=
 ∀(s:Shared)(us:List Value),K.In s.heap→(us++ds).length=ps.length→BindsTo s fd ⟨us,[]⟩ (ps.zip (us++ds))
theorem Binds.all{K:Qqy}{fd:FuncData}{ps:List Str}(h:∀us:List Value,us.length=ps.length→bindArgs fd ⟨us,[]⟩=pure (ps.zip us)):Binds K fd ps []:=fun s us _ hl=>by
 rw[aaK] at hl ⊢
 exact .of_eq (h us hl)
def Passes(CX:GI)(X:Cx)(E:XK):Prop:=∀(c_:Qqz)(σ:St)(H:Hp)(s:Shared)(e:Value)(s':Shared),Inv X c_ σ H s→CX X.stack H s E e s'→X.xe e s'
section
variable{X:Cx}{CX:GI}{k:Nat}{f C:Addr}{fd:FuncData}{ps:List Str}{sp:Sp}{yW:List V}{ds:List Value}{E:XK}{x m:Str}{p pos apos:Pos}{e o:Expr}{es:List Expr}{ta:TE}{t:TA}
theorem Fz{c_:Qqz}{σ:St}{H:Hp}{s:Shared}{Q:VK}{us:List Value}{vs:List V}(F:ij X.prog X.w X.K X.mg X.base CX k f fd ps sp)(hr:kE k X.A)(hb:Binds X.K fd ps ds)(hd:Vals yW ds)(hx:Passes CX X E)
  (I:Inv X c_ σ H s) (r:Vals vs us) (h:sp (vs++yW) H Q E):wpAny (model X.prog X.w) X.A (call (.ref f) us) (EP X c_ σ Q) X.xe s:=by
 have r2:Vals (vs++yW) (us++ds):=r.append hd
 have hl:(us++ds).length=ps.length:=by rw[←r2.length];exact F.len _ _ _ _ h
 refine wpAny_call (codeAny_mono (F.run X.A X.stack s H ⟨us,[]⟩ (us++ds) (vs++yW) Q E hr I.Sb (hb s us I.xo hl) r2 h) fun r s' hq=>?_)
 cases r with
 | error e=>exact hx c_ σ H s e s' I hq
 | ok fl=>
  cases fl with
  | ret u=>exact I.after hq
  | next=>exact False.elim hq
  | brk=>exact False.elim hq
  | cont=>exact False.elim hq
theorem uU(F:ij X.prog X.w X.K X.mg X.base CX k f fd ps sp)(hr:kE k X.A)(hg:Gl X x)(hm:X.mg x=some (.ref f))(hk:W.keepIn X.K (.ref f)=true)(hb:Binds X.K fd ps ds)(hd:Vals yW ds)(hx:Passes CX X E)
  (ha:PA X (e::es) t) (Gu:(x ==("__debug__":Str))=false:=by decide) (he:starEach (e::es) X.env=(false,eval e X.env)::starEach es X.env:=by rfl) (qi:(backTo pos (starEach es X.env)).any (·.1)=false:=by rfl) :
  PE X (.Call (.Name x p) (e::es) [] pos) (Jl sp yW E t):=by
 intro c_ s σ H Q I h
 refine wpAny_Call_Name_kw (uR I hg hm ?_ Gu)
 refine W.callWith_K (h₀:=X.base) I.ok.mod.Q4 hk (i6 (ha pos c_ s σ H _ I h) fun us s1 iF=>?_) he qi
 obtain⟨vs,H1,I1,r,q⟩:=iF
 refine⟨I1.xo,?_⟩
 exact Fz F hr hb hd hx I1 r q
theorem GK{pl:Sem Bool}(he:PE X o ta)(c:Fn X.K C)(hm:Meth X.K C m f)(F:ij X.prog X.w X.K X.mg X.base CX k f fd ps sp)(hr:kE k X.A)(hb:Binds X.K fd ps ds)(hd:Vals yW ds)(hx:Passes CX X E)(ha:PA X (e::es) t)
  (rE:starEach (e::es) X.env=(false,eval e X.env)::starEach es X.env:=by rfl) (qi:(backTo pos (starEach es X.env)).any (·.1)=false:=by rfl)
  (ht:eval (.Call (.Attribute o m apos) (e::es) [] pos) X.env=(do
   let ov ←eval o X.env
   standAt apos.atName
   let (f,first) ←holding [ov] (getMethod ov m pl)
   callWith pos f first (backTo pos (starEach (e::es) X.env)) (backToKw pos (keywordEach [] X.env))):=by rfl) :
  PE X (.Call (.Attribute o m apos) (e::es) [] pos) (GJ C m sp yW E ta t):=by
 intro c_ s σ H Q I h
 refine W.methodCall_KW (pl:=pl) (i6 (he c_ s σ H _ I h) fun u s1 iF=>?_) ht
 obtain⟨x,H1,I1,rx,a,dx,fs,ex,ea,l,q⟩:=iF
 subst ex
 obtain rfl:u=Value.ref a:=rx
 refine zc I1 ea c hm l ?_
 refine W.callWith_K (first:=[.ref a]) (h₀:=X.base) I.ok.mod.Q4 hm.kp (i6 (ha pos c_ s1 σ H1 _ I1 q) fun us s2 iF=>?_) rE qi
 obtain⟨vs,H2,I2,r,q2⟩:=iF
 refine⟨I2.xo,?_⟩
 exact Fz (us:=.ref a::us) (vs:=.ref a::vs) F hr hb hd hx I2 (.cons rfl r) q2
theorem uV{pl:Sem Bool}(he:PE X o ta)(c:Fn X.K C)(hm:Meth X.K C m f)(F:ij X.prog X.w X.K X.mg X.base CX k f fd ps sp)(hr:kE k X.A)(hb:Binds X.K fd ps ds)(hd:Vals yW ds)(hx:Passes CX X E)
  (ht:eval (.Call (.Attribute o m apos) [] [] pos) X.env=(do
   let ov ←eval o X.env
   standAt apos.atName
   let (f,first) ←holding [ov] (getMethod ov m pl)
   callWith pos f first (backTo pos (starEach [] X.env)) (backToKw pos (keywordEach [] X.env))):=by rfl) :
  PE X (.Call (.Attribute o m apos) [] [] pos) (GJ C m sp yW E ta OT):=by
 intro c_ s σ H Q I h
 refine W.methodCall_KW (pl:=pl) (i6 (he c_ s σ H _ I h) fun u s1 iF=>?_) ht
 obtain⟨x,H1,I1,rx,a,dx,fs,ex,ea,l,q⟩:=iF
 subst ex
 obtain rfl:u=Value.ref a:=rx
 refine zc I1 ea c hm l ?_
 exact W.callWith_K0 (first:=[.ref a]) I1.xo hm.kp (Fz (us:=[.ref a]) (vs:=[.ref a]) F hr hb hd hx I1 (.cons rfl .nil) q)
structure Mk(K:Qqy)(C f:Addr):Prop where
 makes:W.makesIn K C=true
 init:W.findIn K (.ref C) "__init__"=some (some (.ref f))
 fn:W.isFn K (.ref f)=true
 kp:W.keepIn K (.ref C)=true
theorem Ea{c_:Qqz}{σ:St}{H:Hp}{s:Shared}{Q:VK}{us:List Value}{vs:List V}(M:Mk X.K C f)(F:ij X.prog X.w X.K X.mg X.base CX k f fd ps sp)(hr:kE (k+1) X.A)(hb:Binds X.K fd ps ds)(hd:Vals yW ds)
  (hx:Passes CX X E) (I:Inv X c_ σ H s) (r:Vals vs us)
  (h:∀x dx,H x=none→H dx=none→dx≠x→sp (.ref x::(vs++yW)) (upd (upd H dx (.own x)) x (.ins C dx [])) (fun v H2=>v=.jm∧Q (.ref x) H2) E) :
  wpAny (model X.prog X.w) X.A (call (.ref C) us) (EP X c_ σ Q) X.xe s:=by
 have hq:=h (s.heap.objs.size+1) s.heap.objs.size (I.iH.fresh (Nat.le_succ _)) (I.iH.fresh (WL _)) (aaU (ab2 _))
 have I2:=Inv.made (C:=C) I
 have r2:Vals (V.ref (s.heap.objs.size+1)::(vs++yW)) (Value.ref (s.heap.objs.size+1)::(us++ds)):=.cons rfl (r.append hd)
 have hl:(Value.ref (s.heap.objs.size+1)::us++ds).length=ps.length:=by
  have e:=r2.length
  rw[F.len _ _ _ _ hq] at e
  exact e.symm
 refine wpAny_call (Jk (f:=f) I.xo M.makes M.init (ab5.mp M.fn) (codeAny_mono (F.run _ X.stack _ _ ⟨Value.ref (s.heap.objs.size+1)::us,[]⟩ (Value.ref (s.heap.objs.size+1)::(us++ds)) _ _ E (hr.make C us [])
  (I2.Sb.make C us []) (hb _ (Value.ref (s.heap.objs.size+1)::us) I2.xo hl) r2 hq) fun r s' Ti=>?_))
 cases r with
 | error e=>exact hx c_ σ _ _ e s' I2 Ti
 | ok fl=>
  cases fl with
  | ret u=>
   obtain⟨v,H',I3,rv,ev,q3⟩:=I2.after Ti
   subst ev
   exact⟨rv,⟨V.ref (s.heap.objs.size+1),H',I3,rfl,q3⟩⟩
  | next=>exact False.elim Ti
  | brk=>exact False.elim Ti
  | cont=>exact False.elim Ti
theorem uW(M:Mk X.K C f)(F:ij X.prog X.w X.K X.mg X.base CX k f fd ps sp)(hr:kE (k+1) X.A)(hg:Gl X x)(hm:X.mg x=some (.ref C))(hb:Binds X.K fd ps ds)(hd:Vals yW ds)(hx:Passes CX X E)
  (ha:PA X (e::es) t) (Gu:(x ==("__debug__":Str))=false:=by decide) (he:starEach (e::es) X.env=(false,eval e X.env)::starEach es X.env:=by rfl) (qi:(backTo pos (starEach es X.env)).any (·.1)=false:=by rfl) :
  PE X (.Call (.Name x p) (e::es) [] pos) (NC C sp yW E t):=by
 intro c_ s σ H Q I h
 refine wpAny_Call_Name_kw (uR I hg hm ?_ Gu)
 refine W.callWith_K (h₀:=X.base) I.ok.mod.Q4 M.kp (i6 (ha pos c_ s σ H _ I h) fun us s1 iF=>?_) he qi
 obtain⟨vs,H1,I1,r,q⟩:=iF
 refine⟨I1.xo,?_⟩
 exact Ea M F hr hb hd hx I1 r q
theorem Jm(M:Mk X.K C f)(F:ij X.prog X.w X.K X.mg X.base CX k f fd ps sp)(hr:kE (k+1) X.A)(hg:Gl X x)(hm:X.mg x=some (.ref C))(hb:Binds X.K fd ps ds)(hd:Vals yW ds)(hx:Passes CX X E)
  (Gu:(x ==("__debug__":Str))=false:=by decide):PE X (.Call (.Name x p) [] [] pos) (NC C sp yW E OT):=by
 intro c_ s σ H Q I h
 refine wpAny_Call_Name_kw (uR I hg hm ?_ Gu)
 exact W.callWith_K0 I.xo M.kp (Ea (us:=[]) M F hr hb hd hx I .nil h)
end
def PK(X:Cx)(kws:List Keyword)(t:TA):Prop:=
 ∀(pos:Pos)(c_:Qqz)(s:Shared)(σ:St)(H:Hp)(Q:List V→Hp→Prop),Inv X c_ σ H s→t σ H Q→wpAny (model X.prog X.w) X.A (evalAll ((backToKw pos (keywordEach kws X.env)).map (·.2))) (AP X c_ σ Q) X.xe s
section
variable{X:Cx}{CX:GI}{k:Nat}{f C:Addr}{fd:FuncData}{ps ks:List Str}{sp:Sp}{E:XK}{x m:Str}{p pos apos kpos:Pos}{e o:Expr}{es:List Expr}{kws:List Keyword}{te ta:TE}{t tk:TA}{nm:Option Str}
variable{g:List Value→List Value→List Value}{gV:List V→List V→List V}
end
structure gv(N P:List Str)(sc:Scope):Prop where
 kind:sc.kind=.function
 co:sc.isCoroutine=false
 gen:sc.isGenerator=false
 nd:N.Nodup
 pre:N.take P.length=P
 par:∀x∈P,sc.names.lookup x=some .local∨sc.names.lookup x=some .cell
 OU:∀y∈sc.names,y.2≠.free
theorem Bv{kindOf:Str→Option NameKind}{x:Str}:∀{binds:List (Str×Value)} {m:Qqx},(∀v,(x,v)∉binds)→bindL kindOf binds m x=m x
 | [],_,_=>rfl
 | (n,v)::r,m,h=>by
  unfold bindL
  rw[Bv fun w hw=>h w (aae _ hw)]
  split
  ·have:x≠n:=by rintro rfl;exact h v aal
   simp[this]
  ·rfl
theorem Bw{kindOf:Str→Option NameKind}{x:Str}:∀{binds:List (Str×Value)} {m:Qqx},(∀v,(x,v)∉binds)→bindC kindOf binds m x=m x
 | [],_,_=>rfl
 | (n,v)::r,m,h=>by
  unfold bindC
  rw[Bw fun w hw=>h w (aae _ hw)]
  split
  ·rfl
  ·have:x≠n:=by rintro rfl;exact h v aal
   simp[this]
theorem By{kindOf:Str→Option NameKind}{x:Str}{v:Value}:∀{P:List Str} {vs:List Value} {i:Nat} {m:Qqx},P.Nodup→P[i]?=some x→vs[i]?=some v→kindOf x=some .local→
  bindL kindOf (P.zip vs) m x=some v
 | [],_,_,_,_,h,_,_=>by simp at h
 | _::_,[],_,_,_,_,h,_=>by simp at h
 | p::P,w::vs,0,m,nd,h1,h2,hk=>by
  simp at h1 h2;subst h1;subst h2
  show bindL kindOf ((p,w)::P.zip vs) m p=_
  unfold bindL
  rw[Bv fun v hv=>(aa0.mp nd).1 (List.of_mem_zip hv).1,aar hk]
  simp
 | p::P,w::vs,i+1,m,nd,h1,h2,hk=>by
  show bindL kindOf ((p,w)::P.zip vs) m x=_
  unfold bindL
  exact By (i:=i) (aa0.mp nd).2 (by simpa using h1) (by simpa using h2) hk
theorem Bz{kindOf:Str→Option NameKind}{x:Str}{v:Value}:∀{P:List Str} {vs:List Value} {i:Nat} {m:Qqx},P.Nodup→P[i]?=some x→vs[i]?=some v→kindOf x≠some .local→
  bindC kindOf (P.zip vs) m x=some v
 | [],_,_,_,_,h,_,_=>by simp at h
 | _::_,[],_,_,_,_,h,_=>by simp at h
 | p::P,w::vs,0,m,nd,h1,h2,hk=>by
  simp at h1 h2;subst h1;subst h2
  show bindC kindOf ((p,w)::P.zip vs) m p=_
  unfold bindC
  rw[Bw fun v hv=>(aa0.mp nd).1 (List.of_mem_zip hv).1,aap hk]
  simp
 | p::P,w::vs,i+1,m,nd,h1,h2,hk=>by
  show bindC kindOf ((p,w)::P.zip vs) m x=_
  unfold bindC
  exact Bz (i:=i) (aa0.mp nd).2 (by simpa using h1) (by simpa using h2) hk
noncomputable def start(N:List Str)(vs:List V):St:=vs.map some++List.replicate (N.length-vs.length) none
noncomputable def wo(CX:GI)(P:Program)(w:World)(K:Qqy)(mg:Qqx)(base:Heap)(N:List Str)(qual:Str)(scope:Scope)(f:Addr)(cd:Value)(A:Around)(outer:List Env)(s:Shared)(H:Hp)(E:XK):Cx where
 prog:=P
 w:=w
 K:=K
 mg:=mg
 base:=base
 A:=A.deeper (envOfC qual scope s.heap.objs.size f cd)
 N:=N
 s₀:=s
 H₀:=H
 env:=envOfC qual scope s.heap.objs.size f cd
 outer:=outer
 stack:=envOfC qual scope s.heap.objs.size f cd::outer
 ex:=[]
 calm:=true
 fn:=fun _=>true
 pn:=[]
 xe:=fun e s'=>wpAny (model P w) (A.deeper (envOfC qual scope s.heap.objs.size f cd)) (leaving (envOfC qual scope s.heap.objs.size f cd) e) (fun _ IE=>CX outer H s E e IE) (fun e' IE=>CX outer H s E e' IE) s'
theorem Eb{sc:Scope}{n:Nat}{x:Str}(h:sc.names.lookup x=some .cell):∃c,(cellsFrom n sc.names []).lookup x=some c:=by
 have q:=W.cellsFrom_some sc.names n [] (.inl h)
 exact Option.isSome_iff_exists.mp q
theorem Hv{CX:GI}{P:Program}{w:World}{K:Qqy}{mg:Qqx}{base:Heap}{N ps:List Str}{qual:Str}{scope:Scope}{f:Addr}{cd:Value}{A:Around}{outer:List Env}{s s1:Shared}{H:Hp}{E:XK}{us:List Value}{vs:List V}
  (S:gv N ps scope) (hd:A.handled=none) (e0:Fy P w K mg base A outer s H) (hl:vs.length=ps.length) (r:Vals vs us)
  (x:InCallC s s.heap.objs.size (bindL (envOfC qual scope s.heap.objs.size f cd).kindOf (ps.zip us) fun _=>none) (cellsFrom (s.heap.objs.size+1) scope.names []) (bindC (envOfC qual scope s.heap.objs.size f cd).kindOf (ps.zip us) fun _=>none) s1) :
  Inv (wo CX P w K mg base N qual scope f cd A outer s H E) [] (start N vs) H s1:=by
 have qi:ps.length≤N.length:=by have:=aa6 List.length S.pre;rw[aay] at this;omega
 obtain⟨h1,tk,rfl,hk⟩:=x.done
 have Tj:∀b:Addr,b∉(wo CX P w K mg base N qual scope f cd A outer s H E).ex:=fun b z=>absurd (show b∈([]:List Addr) from z) (by simp)
 refine⟨⟨e0.mod,S.kind,rfl,rfl,WL _,fun y z c h1 h2=>?_,fun y hy=>?_,fun y c _ h=>?_,fun _=>hd,Around.frames_deeper e0.frames,.inr ⟨rfl,rfl⟩,fun b z=>absurd z (Tj b),e0.bs,e0.LV,fun b _ _=>Tj b,fun b z=>absurd z (Tj b),e0.uQ,e0.Ny⟩,
  rfl,e0.bare,Un.kept hk,⟨_,x.toInCall.ns,fun i y v h1 h2 h3=>?_⟩,fun y c h=>⟨_,x.cell y c h⟩,e0.iH.fresh (WL _),fun y c h=>?_,fun p hp=>absurd (show p∈([]:Qqz) from hp) (by simp),e0.iH.kept hk,?_⟩
 ·exact name_of_addr x.apart (abC h1) (abC h2)
 ·have hy:scope.names.lookup y=some .cell∨scope.names.lookup y=some .free:=hy
  rcases hy with hy|hy
  ·exact Eb hy
  ·exact absurd rfl (S.OU _ (abC hy))
 ·exact Nat.le_of_lt (x.above y c (abC h))
 ·have hi:i<vs.length:=by
   unfold start at h2
   by_cases hi:i<vs.length
   ·exact hi
   ·rw[aa9 (by simpa using hi)] at h2
    rw[List.getElem?_replicate] at h2
    split at h2<;>cases h2
  have ha:vs[i]?=some v:=by
   unfold start at h2
   rw[aba (by simpa using hi),Z4] at h2
   cases e:vs[i]? with
   | none=>rw[e] at h2;cases h2
   | some a=>rw[e] at h2;cases h2;rfl
  obtain⟨u,hu,rv⟩:=r.get ha
  have hp:ps[i]?=some y:=by
   rw[←S.pre,List.getElem?_take_of_lt (by omega)];exact h1
  have ndP:ps.Nodup:=by rw[←S.pre];exact S.nd.sublist (acf _ _)
  refine⟨u,rv,?_⟩
  rcases S.par y (WI hp) with k|k
  ·exact .inl ⟨k,By ndP hp hu k⟩
  ·obtain⟨c,e⟩:=Eb (n:=s.heap.objs.size+1) k
   refine .inr ⟨.inl k,c,e,?_⟩
   have q:=x.cell y c e
   rw[Bz ndP hp hu (by show scope.names.lookup y≠_;rw[k];decide)] at q
   exact q
 ·exact e0.iH.fresh (Nat.le_of_lt (x.above y c (abC h)))
 ·unfold start
  show _=N.length
  rw[W4,TU,List.length_replicate]
  omega
theorem ND{CX:GI}{P:Program}{w:World}{K:Qqy}{mg:Qqx}{base:Heap}{k:Nat}{f:Addr}{name qual:Str}{params:Arguments}{body:List Stmt}{scope:Scope}{dV kV doc pm jl ct oc:Value}{an od:Option Addr}
  {IQ:Array (Option Value)} {N ps:List Str} {sp:Sp} (lk:K.lookup f=some ⟨oc,od,.func (W.fnOf name qual params body scope dV kV doc pm an jl ct),IQ⟩) (B5:W.codeIn K jl qual=true) (S:gv N ps scope)
  (len:∀vs H Q E,sp vs H Q E→vs.length=ps.length)
  (vX:∀(A:Around)(outer:List Env)(s:Shared)(H:Hp)(vs:List V)(Q:VK)(E:XK),kE k (A.deeper (envOfC qual scope s.heap.objs.size f jl))→sp vs H Q E→
   ∃t,Fm (wo CX P w K mg base N qual scope f jl A outer s H E) body t∧t {nx:=fun _ H'=>Q .jm H',rt:=Q} (start N vs) H) :
  ij P w K mg base CX (k+1) f (W.fnOf name qual params body scope dV kV doc pm an jl ct) ps sp:=by
 refine⟨len,fun A outer s H args us vs Q E hr e0 hb r LH=>?_⟩
 have hl:=len _ _ _ _ LH
 have KX:K.In s.heap:=e0.mod.Q4.keeps fun b o e=>(e0.bs b o e).1
 have lim:s.heap.NoLimit:=e0.mod.nolimit.keeps fun b o e=>(e0.bs b o e).1
 have Tn:∀y∈ps.zip us,scope.names.lookup y.1=some .local∨(scope.names.lookup y.1=some .cell∧((cellsFrom (s.heap.objs.size+1) scope.names []).lookup y.1).isSome=true):=fun⟨n,v⟩ hy=>by
  rcases S.par n (List.of_mem_zip hy).1 with q|q
  ·exact .inl q
  ·exact .inr ⟨q,W.cellsFrom_some _ _ _ (.inl q)⟩
 refine codeAny_call_function hr.depth (KX _ _ lk) rfl S.co S.gen rfl (W.codeRec_of KX B5) (hb _ _ _ _ ?_)
 refine wpAny_newFunctionEnv_cells S.kind Tn fun env he s1 x=>?_
 subst he
 refine⟨lim.keeps x.toInCall.keep,codeAny_func ?_⟩
 obtain⟨t,ht,hq⟩:=vX A outer s H vs Q E (hr.deeper _) LH
 have I:Inv (wo CX P w K mg base N qual scope f jl A outer s H E) [] (start N vs) H s1:=Hv S hr.hd e0 hl r x
 refine abA (ht [] s1 (start N vs) H _ I hq) (fun fl s' hs=>?_) fun e s' hs=>hs
 have fin:∀{σ':St} {H':Hp} {v:V} {u:Value},Inv (wo CX P w K mg base N qual scope f jl A outer s H E) [] σ' H' s'→RelV v u→Q v H'→CE outer P w H s Q u s':=
  fun{σ' H' v u} J rv q=>⟨v,H',J.os,J.bare,J.base,J.iH,rv,q⟩
 cases fl with
 | ret u=>
  obtain⟨v,σ',H',J,rv,q⟩:=hs
  exact fin J rv q
 | next=>
  obtain⟨σ',H',J,q⟩:=hs
  exact fin (v:=V.jm) (u:=Value.none) J rfl q
 | brk=>
  obtain⟨_,_,_,q⟩:=hs
  exact False.elim q
 | cont=>
  obtain⟨_,_,_,q⟩:=hs
  exact False.elim q
section
variable{X:Cx}{x:Str}{p pos:Pos}{e:Expr}{es:List Expr}{t:TA}{id T:String}{r:List V→Hp→VK→Prop}
def Z0(r:List V→Hp→VK→Prop)(t:TA):TE:=fun σ H Q=>t σ H fun vs H1=>r vs H1 Q
theorem gs(hc:tQ X (.builtin id) r)(hg:Gl X x)(hm:X.mg x=none)(hv:bootBuiltins x=some (.builtin id))(ha:PA X (e::es) t)(hn:x≠"__name__":=by decide)(Gu:(x ==("__debug__":Str))=false:=by decide)
  (he:starEach (e::es) X.env=(false,eval e X.env)::starEach es X.env:=by rfl) (qi:(backTo pos (starEach es X.env)).any (·.1)=false:=by rfl):PE X (.Call (.Name x p) (e::es) [] pos) (Z0 r t):=by
 intro c_ s σ H Q I h
 refine wpAny_Call_Name_kw (nN I hg hm hv ?_ hn Gu)
 exact PyProof.Rows.callWith_builtin1 (i6 (ha pos c_ s σ H _ I h) fun us s1 ⟨vs,H1,I1,r1,q1⟩=>hc c_ s1 σ H1 vs us Q I1 r1 q1) he qi
theorem pK(hc:tQ X (.type T) r)(hg:Gl X x)(hm:X.mg x=none)(hv:bootBuiltins x=some (.type T))(ha:PA X (e::es) t)(hn:x≠"__name__":=by decide)(Gu:(x ==("__debug__":Str))=false:=by decide)
  (he:starEach (e::es) X.env=(false,eval e X.env)::starEach es X.env:=by rfl) (qi:(backTo pos (starEach es X.env)).any (·.1)=false:=by rfl):PE X (.Call (.Name x p) (e::es) [] pos) (Z0 r t):=by
 intro c_ s σ H Q I h
 refine wpAny_Call_Name_kw (nN I hg hm hv ?_ hn Gu)
 exact aaZ (i6 (ha pos c_ s σ H _ I h) fun us s1 ⟨vs,H1,I1,r1,q1⟩=>hc c_ s1 σ H1 vs us Q I1 r1 q1) he qi
end
end L2
namespace HT
open PySem PyProof.Rows
section
open PySem.SeqAt
open PySem.AutoSeq1 (wpAny_loadPart')
open PySem.MeetsSeq PySem.MeetsSeq2 PySem.MeetsSeq3
end
section
variable{prog:Program}{w:World}{A:Around}{E:Qqq}{s:Shared}
noncomputable def Ec(n d:Nat):Option Int→Nat
 | none=>d
 | some v=>if v<0 then(v+(n:Int)).toNat else min v.toNat n
theorem zd(n d:Nat):Ec n d none=d:=rfl
theorem Ce(n d k:Nat):Ec n d (some (k:Int))=min k n:=by
 show(if(k:Int)<0 then((k:Int)+(n:Int)).toNat else min (k:Int).toNat n)=min k n
 rw[aap (by omega),aa2]
end
end HT
namespace L2
open PySem PySem.Spec PyProof.Rows
abbrev TO:=St→Hp→(Option Int→Hp→Prop)→Prop
def PO(X:Cx)(e:Option Expr)(t:TO):Prop:=
 ∀(c_:Qqz)(s:Shared)(σ:St)(H:Hp)(Q:Option Int→Hp→Prop),Inv X c_ σ H s→t σ H Q→
  wpAny (model X.prog X.w) X.A (evalPart e X.env) (fun u s'=>∃o H',Inv X c_ σ H' s'∧IsPart u o∧Q o H') X.xe s
def L0:TO:=fun _ H Q=>Q none H
def Sd(t:TE):TO:=fun σ H Q=>t σ H fun x H1=>∃i,x=.int i∧Q (some i) H1
section
variable{X:Cx}{e:Expr}{te:TE}{lo hi:Option Expr}{tl th:TO}{pos p2:Pos}
theorem nF:PO X none L0:=by
 intro c_ s σ H Q I h
 rw[evalPart_none]
 exact aag ⟨none,H,I,.none,h⟩
theorem nG(h:PE X e te):PO X (some e) (Sd te):=by
 intro c_ s σ H Q I hw
 rw[evalPart_some]
 refine i6 (h c_ s σ H _ I hw) fun u s1 iF=>?_
 obtain⟨x,H1,I1,r1,q1⟩:=iF
 obtain⟨i,rfl,q⟩:=q1
 obtain⟨t,rfl⟩:=r1
 exact⟨some i,H1,I1,.int i t,q⟩
def Z1(X:Cx)(r:V→Option Int→Option Int→Hp→VK→Prop):Prop:=
 ∀(c_:Qqz)(s:Shared)(σ:St)(H:Hp)(x:V)(v vl vu:Value)(lo hi:Option Int)(sl:Addr)(Q:VK),Inv X c_ σ H s→RelV x v→s.heap.IsSliceOf sl vl vu .none→IsPart vl lo→IsPart vu hi→r x lo hi H Q→
  ∃T id,typeLookup (.type T) "__getitem__"=pure (some (.builtin id))∧s.TypeIs v T∧wpAny (model X.prog X.w) X.A (getItem v (.ref sl)) (EP X c_ σ Q) X.xe s
def tSl(r:V→Option Int→Option Int→Hp→VK→Prop)(te:TE)(tl th:TO):TE:=fun σ H Q=>te σ H fun x H1=>tl σ H1 fun l H2=>th σ H2 fun u H3=>r x l u H3 Q
theorem lC{r:V→Option Int→Option Int→Hp→VK→Prop}(hr:Z1 X r)(he:PE X e te)(hl:PO X lo tl)(hu:PO X hi th):PE X (.Subscript e (.Slice lo hi none p2) pos) (tSl r te tl th):=by
 intro c_ s σ H Q I h
 refine Subscript_ (i6 (he c_ s σ H _ I h) fun v s1 iF=>?_)
 obtain⟨x,H1,I1,r1,q1⟩:=iF
 refine wpAny_Slice (i6 (hl c_ s1 σ H1 _ I1 q1) fun vl s2 iF=>?_)
 obtain⟨l,H2,I2,pl,q2⟩:=iF
 refine i6 (hu c_ s2 σ H2 _ I2 q2) fun vu s3 ID=>?_
 obtain⟨u,H3,I3,pu,q3⟩:=ID
 rw[evalPart_none]
 refine aag ?_
 have I4:Inv X c_ σ H3 {s3 with heap:=s3.heap.push {cls:=.type "slice",data:=.fields #[vl,vu,.none]}}:=I3.kept (t':=s3.toks) fun b ob q=>aab _ q
 obtain⟨T,id,hT,ht,hg⟩:=hr c_ {s3 with heap:=s3.heap.push {cls:=.type "slice",data:=.fields #[vl,vu,.none]}} σ H3 x v vl vu l u s3.heap.objs.size Q I4 r1 (Heap.IsSliceOf.new ..) pl pu q3
 show wpAny (model X.prog X.w) X.A (subscriptTail e (.Slice lo hi none p2) v (.ref s3.heap.objs.size)) (EP X c_ σ Q) X.xe {s3 with heap:=s3.heap.push {cls:=.type "slice",data:=.fields #[vl,vu,.none]}}
 exact tail_any (ops:=[.ref s3.heap.objs.size,v]) ht hT hg (by with_unfolding_all rfl)
noncomputable def tJ(xs:List V)(lo hi:Option Int):List V:=(xs.drop (HT.Ec xs.length 0 lo)).take (HT.Ec xs.length xs.length hi-HT.Ec xs.length 0 lo)
theorem Ed(xs:List V)(lo hi:Option Int):(tJ xs lo hi).length≤xs.length:=by
 unfold tJ
 rw[aay,List.length_drop]
 omega
end
noncomputable def Jn(n:Nat)(i:Int):Option Nat:=if 0≤i then(if i<n then some i.toNat else none) else if -(n:Int)≤i then some (i+n).toNat else none
noncomputable def Fo{α:Type}(xs:List α)(i:Int):Option α:=(Jn xs.length i).bind fun j=>xs[j]?
theorem GL{n:Nat}{i:Int}{j:Nat}(h:Jn n i=some j):seqIndex? i n=some j∧j<n∧-(n:Int)≤i∧i<n:=by
 unfold Jn at h
 by_cases h0:0≤i
 ·rw[aar h0] at h
  by_cases h1:i<n
  ·rw[aar h1] at h
   have e:i.toNat=j:=aaA h
   exact⟨by rw[seqIndex_of h0 h1,e],by omega,by omega,h1⟩
  ·rw[aap h1] at h;cases h
 ·rw[aap h0] at h
  by_cases h1:-(n:Int)≤i
  ·rw[aar h1] at h
   have e:(i+n).toNat=j:=aaA h
   exact⟨by rw[seqIndex_neg (by omega) h1,e],by omega,h1,by omega⟩
  ·rw[aap h1] at h;cases h
theorem Cf{α:Type}{xs:List α}{i:Int}{v:α}(h:Fo xs i=some v):∃j,seqIndex? i xs.length=some j∧xs[j]?=some v∧j<xs.length∧-(xs.length:Int)≤i∧i<xs.length:=by
 unfold Fo at h
 cases e:Jn xs.length i with
 | none=>rw[e] at h;cases h
 | some j=>
  rw[e] at h
  obtain⟨h1,h2,h3,h4⟩:=GL e
  exact⟨j,h1,h,h2,h3,h4⟩
theorem L1{α:Type}{xs:List α}{j:Nat}{v:α}(h:xs[j]?=some v):Fo xs (j:Int)=some v:=by
 have hj:j<xs.length:=(List.getElem?_eq_some_iff.mp h).1
 have e:Jn xs.length (j:Int)=some j:=by
  unfold Jn
  rw[aar (by omega),aar (by omega)];simp
 unfold Fo;rw[e];exact h
theorem ze{α:Type}(xs:List α)(v:α):Fo (xs++[v]) (-1)=some v:=by
 have hl:(xs++[v]).length=xs.length+1:=by simp
 have e:Jn (xs++[v]).length (-1)=some xs.length:=by
  unfold Jn
  rw[hl,aap (by decide),aar (by omega)]
  congr 1
  omega
 unfold Fo
 rw[e]
 show(xs++[v])[xs.length]?=some v
 simp
def GN(b:Expr):Prop:=∀o i,subscripted b false o i=operate [o,i] (getItem o i)
def U8(X:Cx)(r:R2):Prop:=
 ∀(value slice:Expr)(c_:Qqz)(s:Shared)(σ:St)(H:Hp)(x y:V)(v u:Value)(Q:VK),Inv X c_ σ H s→RelV x v→RelV y u→r x y H Q→
  subscripted slice false v u=operate [v,u] (getItem v u)→wpAny (model X.prog X.w) X.A (subscriptTail value slice v u) (EP X c_ σ Q) X.xe s
def Wq(X:Cx)(id:String)(r:V→List V→Hp→VK→Prop):Prop:=
 ∀(c_:Qqz)(s:Shared)(σ:St)(H:Hp)(x:V)(xs:List V)(v:Value)(us:List Value)(Q:VK),Inv X c_ σ H s→RelV x v→Vals xs us→r x xs H Q→
  wpAny (model X.prog X.w) X.A (call (.builtin id) (v::us)) (EP X c_ σ Q) X.xe s
section
variable{X:Cx}{a b:Expr}{ta tb:TE}{pos:Pos}
theorem j5{r:R2}(hr:U8 X r)(ha:PE X a ta)(hb:PE X b tb)(hs:GN b):PE X (.Subscript a b pos) (R6 r ta tb):=by
 intro c_ s σ H Q I h
 exact Subscript_ (OO ha hb I h fun v u s2 x y H2 I2 rx ry q=>hr a b c_ s2 σ H2 x y v u Q I2 rx ry q (hs _ _))
noncomputable def Se(K:Qqy):R2:=fun x y H Q=>∃p xs i v,x=.ref p∧y=.int i∧gH K H p xs∧Fo xs i=some v∧Q v H
noncomputable def Wr(K:Qqy):R2:=fun x y H Q=>∃p xs i v,x=.ref p∧y=.int i∧rG K H p xs∧Fo xs i=some v∧Q v H
noncomputable def Ws:R2:=fun x y H Q=>∃z i c,x=.str z∧y=.int i∧z.length≤sizeLine∧Fo z.cps.toList i=some c∧Q (.str ⟨#[c]⟩) H
theorem kL:U8 X (Se X.K):=by
 intro value slice c_ s σ H x y v u Q I rx ry h hs
 obtain⟨p,xs,i,z,rfl,rfl,hq,he,q⟩:=h
 cases rx
 obtain⟨t,rfl⟩:=ry
 obtain⟨h_,r,pl,hz⟩:=I.list hq
 obtain⟨j,h1,h2,h3,h4,h5⟩:=Cf he
 obtain⟨w,ew,Bp⟩:=r.get h2
 have hl:=r.length
 have hn:=ui
 have fin:EP X c_ σ Q w s:=⟨z,H,I,Bp,q⟩
 by_cases h0:0≤i
 ·have hj:i.toNat=j:=by
   rw[seqIndex_of h0 h5] at h1
   exact aaA h1
  exact item_listR pl.isList h0 (by omega) (by rw[hj];simpa using ew) fin hs
 ·have hj:(i+(h_.toArray.size:Int)).toNat=j:=by
   rw[seqIndex_neg (by omega) h4] at h1
   rw[aai,←hl]
   exact aaA h1
  exact subscriptTail_builtinR (x:=w) pl.isList.typeIs slot_list_getitem.lookup
   (wpAny_getItem_list_neg (Q:=fun r s'=>r=w∧EP X c_ σ Q r s') pl.isList (by omega) (by rw[aai]<;>omega) (by omega) (by rw[hj];simpa using ew) ⟨rfl,fin⟩) hs
theorem o9:U8 X (Wr X.K):=by
 intro value slice c_ s σ H x y v u Q I rx ry h hs
 obtain⟨p,xs,i,z,rfl,rfl,hq,he,q⟩:=h
 cases rx
 obtain⟨t,rfl⟩:=ry
 obtain⟨h_,r,pl,hz⟩:=I.tuple hq
 obtain⟨j,h1,h2,h3,h4,h5⟩:=Cf he
 obtain⟨w,ew,Bp⟩:=r.get h2
 have hl:=r.length
 have hn:=ui
 have fin:EP X c_ σ Q w s:=⟨z,H,I,Bp,q⟩
 exact subscriptTail_builtinR (x:=w) pl.typeIs slot_tuple_getitem.lookup
  (getItem_tuple (j:=j) (Q:=fun r s'=>r=w∧EP X c_ σ Q r s') pl (by omega) (by omega) (by rw[aai,←hl];exact h1) (by simpa using ew) ⟨rfl,fin⟩) hs
theorem FA:U8 X Ws:=by
 intro value slice c_ s σ H x y v u Q I rx ry h hs
 obtain⟨z,i,c,rfl,rfl,hz,he,q⟩:=h
 obtain⟨t,rfl⟩:=rx
 obtain⟨t',rfl⟩:=ry
 obtain⟨j,h1,h2,h3,h4,h5⟩:=Cf he
 have hl:z.cps.toList.length=z.length:=by simp[Str.length]
 rw[hl] at h1 h4 h5
 have hn:=ui
 exact tail_any (typeIs_str s z t) slot_str_getitem.lookup (getItem_str (c:=c) (by
  have e1:decide (i < -(2 ^ 63:Int))=false:=Z6 (by omega)
  have e2:decide (i≥2 ^ 63)=false:=Z6 (by omega)
  rw[e1,e2,Bool.or_false]) (by rw[h1];simpa using h2) ⟨.str ⟨#[c]⟩,H,I.tok _,⟨_,rfl⟩,q⟩) hs
theorem FC(h_:List Value)(n j:Nat)(u:Value):Obj.mapSeq (·.setIfInBounds j u) {cls:=.type "list",data:=.seq h_.toArray n}={cls:=.type "list",data:=.seq (h_.set j u).toArray n}:=by
 simp[Obj.mapSeq]
theorem Inv.lst{c_:Qqz}{σ:St}{H:Hp}{s:Shared}{p:Addr}{xs:List V}(I:Inv X c_ σ H s)(h:H p=some (.lst xs)) :
  ∃(h_:List Value)(n:Nat),Vals xs h_∧s.heap.get? p=some {cls:=.type "list",data:=.seq h_.toArray n}∧xs.length≤sizeLine:=by
 obtain⟨z,h_,n,r,e⟩:=I.iH p _ h
 exact⟨h_,n,r,e,z⟩
theorem Inv.OV{c_:Qqz}{σ:St}{H:Hp}{s:Shared}{p:Addr}{xs ys:List V}{h_ its':List Value}{n n':Nat}{f:Obj→Obj}(I:Inv X c_ σ H s)(h:H p=some (.lst xs))
  (ho:s.heap.get? p=some {cls:=.type "list",data:=.seq h_.toArray n}) (hf:f {cls:=.type "list",data:=.seq h_.toArray n}={cls:=.type "list",data:=.seq its'.toArray n'}) (r:Vals ys its') (hz:ys.length≤sizeLine) (t:Nat) :
  Inv X c_ σ (upd H p (.lst ys)) {s with heap:=s.heap.update p f,toks:=t}:=by
 have e:(s.heap.update p f).get? p=some {cls:=.type "list",data:=.seq its'.toArray n'}:=by
  rw[aa4 f ho (by rw[hf]<;>rfl),hf]
 refine I.write (x:=p) (e:=p) (by rw[h];trivial) (.inl rfl) (fun b u hb q=>(aa1 _ _ (abK hb)).trans q) ⟨_,e⟩ ?_
 exact⟨hz,its',n',r,e⟩
noncomputable def Sf:V→V→V→Hp→(Hp→Prop)→Prop:=fun o i v H Q=>∃p xs k j,o=.ref p∧i=.int k∧H p=some (.lst xs)∧Jn xs.length k=some j∧Q (upd H p (.lst (xs.set j v)))
theorem set_list:R0 X Sf:=by
 intro c_ s σ H o i v ov iv u Q I ro ri rv h
 obtain⟨p,xs,k,j,rfl,rfl,hp,hj,q⟩:=h
 cases ro
 obtain⟨t,rfl⟩:=ri
 obtain⟨h_,n,r,ho,hz⟩:=I.lst hp
 obtain⟨h1,h2,h3,h4⟩:=GL hj
 have hl:=r.length
 have hn:=ui
 have I':Inv X c_ σ (upd H p (.lst (xs.set j v))) {s with heap:=s.heap.update p (Obj.mapSeq (·.setIfInBounds j u))}:=
  I.OV hp ho (FC h_ n j u) (r.set rv j) (by rw[acn];exact hz) s.toks
 by_cases h0:0≤k
 ·have hk:k.toNat=j:=by
   rw[seqIndex_of h0 h4] at h1
   exact aaA h1
  exact W.ki_setAt ho h0 (by omega) (by rw[aai,←hl];exact h4) (by rw[hk];exact⟨_,I',q⟩)
 ·have hk:(k+(h_.toArray.size:Int)).toNat=j:=by
   rw[seqIndex_neg (by omega) h3] at h1
   rw[aai,←hl]
   exact aaA h1
  exact W.ki_setBack ho (by omega) (by rw[aai,←hl];exact h3) (by omega) (by rw[hk];exact⟨_,I',q⟩)
theorem Cg(lo hi:Option Int)(n:Nat):(sliceBounds lo hi none n).1=((HT.Ec n 0 lo:Nat):Int)∧(sliceBounds lo hi none n).2.1=((HT.Ec n n hi:Nat):Int)∧(sliceBounds lo hi none n).2.2=1:=by
 refine⟨?_,?_,rfl⟩
 ·cases lo with
  | none=>simp[sliceBounds,HT.Ec]
  | some i=>
   simp only [sliceBounds,HT.Ec,Option.getD_none,show(1:Int)>0 by decide,if_true]
   by_cases h:i<0
   ·simp only [h,if_true]<;>omega
   ·simp only [h,abS]<;>omega
 ·cases hi with
  | none=>simp[sliceBounds,HT.Ec]
  | some i=>
   simp only [sliceBounds,HT.Ec,Option.getD_none,show(1:Int)>0 by decide,if_true]
   by_cases h:i<0
   ·simp only [h,if_true]<;>omega
   ·simp only [h,abS]<;>omega
theorem A2(h_:List Value)(lo hi:Option Int):slicePick h_.toArray lo hi none=((h_.drop (HT.Ec h_.length 0 lo)).take (HT.Ec h_.length h_.length hi-HT.Ec h_.length 0 lo)).toArray:=by
 obtain⟨h1,h2,h3⟩:=Cg lo hi h_.toArray.size
 unfold slicePick
 rw[h1,h2,h3]
 simp only [sliceRange_one,pick_run,aai]<;>rfl
noncomputable def Wt(K:Qqy):V→Option Int→Option Int→Hp→VK→Prop:=fun x lo hi H Q=>∃a xs,x=.ref a∧gH K H a xs∧∀p,H p=none→Q (.ref p) (upd H p (.lst (tJ xs lo hi)))
theorem nH:Z1 X (Wt X.K):=by
 intro c_ s σ H x v vl vu lo hi sl Q I rx hs pl pu h
 obtain⟨a,xs,rfl,hx,q⟩:=h
 cases rx
 obtain⟨h_,r,ht,hz⟩:=I.list hx
 have hlen:=r.length
 refine⟨"list",_,slot_list_getitem.lookup,ht.isList.typeIs,?_⟩
 refine wpAny_getItem_list_slice ht.isList hs pl pu .none (by simp) ?_ (by rw[aai]<;>omega)
 rw[A2,←hlen]
 refine⟨.ref s.heap.objs.size,_,I.laid (t':=s.toks) (o:=.lst (tJ xs lo hi)) (fun b ob q=>aab _ q) (WL _) ?_,rfl,q _ (I.iH.fresh (WL _))⟩
 exact⟨XI (Ed xs lo hi) hz,_,0,(r.drop (HT.Ec xs.length 0 lo)).take (HT.Ec xs.length xs.length hi-HT.Ec xs.length 0 lo),aav _ rfl⟩
noncomputable def l5:V→Bool
 | .jm=>true
 | .bl _=>true
 | .int _=>true
 | .str _=>true
 | _=>false
noncomputable def Hw:V→V→Bool
 | .jm,.jm=>true
 | .bl a,.bl b=>a ==b
 | .bl a,.int b=>(if a then 1 else 0) ==b
 | .int a,.bl b=>a ==(if b then 1 else 0)
 | .int a,.int b=>a ==b
 | .str a,.str b=>a ==b
 | _,_=>false
theorem Jo{A:Around}{s:Shared}{y x:V}{u v:Value}(ry:RelV y u)(rx:RelV x v)(fy:l5 y=true)(fx:l5 x=true):SeqAt.EqAt A s u v (Hw y x):=by
 cases y with
 | jm=>
  cases ry
  cases x with
  | jm=>cases rx;exact SeqAt.EqAt.same _
  | bl b=>cases rx;exact SeqAt.EqAt.none_bool b
  | int b=>obtain⟨t,rfl⟩:=rx;exact SeqAt.EqAt.none_int b t
  | str b=>obtain⟨t,rfl⟩:=rx;exact SeqAt.EqAt.none_str b t
  | _=>exact absurd (show false=true from fx) aaf
 | bl a=>
  cases ry
  cases x with
  | jm=>cases rx;exact SeqAt.EqAt.bool_none a
  | bl b=>cases rx;exact SeqAt.EqAt.bool_bool a b
  | int b=>obtain⟨t,rfl⟩:=rx;exact SeqAt.EqAt.bool_int a b t
  | str b=>obtain⟨t,rfl⟩:=rx;exact SeqAt.EqAt.bool_str a b t
  | _=>exact absurd (show false=true from fx) aaf
 | int a=>
  obtain⟨t',rfl⟩:=ry
  cases x with
  | jm=>cases rx;exact SeqAt.EqAt.int_none a t'
  | bl b=>cases rx;exact SeqAt.EqAt.int_bool a t' b
  | int b=>obtain⟨t,rfl⟩:=rx;exact SeqAt.EqAt.int_int a t' b t
  | str b=>obtain⟨t,rfl⟩:=rx;exact SeqAt.EqAt.int_str a t' b t
  | _=>exact absurd (show false=true from fx) aaf
 | str a=>
  obtain⟨t',rfl⟩:=ry
  cases x with
  | jm=>cases rx;exact SeqAt.EqAt.str_none a t'
  | bl b=>cases rx;exact SeqAt.EqAt.str_bool a t' b
  | int b=>obtain⟨t,rfl⟩:=rx;exact SeqAt.EqAt.str_int a t' b t
  | str b=>obtain⟨t,rfl⟩:=rx;exact SeqAt.EqAt.str_str a t' b t
  | _=>exact absurd (show false=true from fx) aaf
 | _=>exact absurd (show false=true from fy) aaf
noncomputable def L3(x:V)(u:Value):Bool:=match u with
 | .none=>Hw .jm x
 | .bool b=>Hw (.bl b) x
 | .int i _=>Hw (.int i) x
 | .str z _=>Hw (.str z) x
 | _=>false
theorem Jp{x y:V}{u:Value}(r:RelV y u)(f:l5 y=true):L3 x u=Hw y x:=by
 cases y with
 | jm=>cases r;rfl
 | bl b=>cases r;rfl
 | int i=>obtain⟨t,rfl⟩:=r;rfl
 | str z=>obtain⟨t,rfl⟩:=r;rfl
 | _=>exact absurd (show false=true from f) aaf
theorem Ci{x:V}:∀{xs:List V} {us:List Value},Vals xs us→xs.all l5=true→us.any (L3 x)=xs.any fun y=>Hw y x
 | _,_,.nil,_=>rfl
 | y::xs,u::us,.cons r t,f=>by
  rw[List.all_cons,abf] at f
  rw[List.any_cons,List.any_cons,Jp r f.1,Ci t f.2]
theorem zf{A:Around}{s:Shared}{x:V}{v:Value}(rx:RelV x v)(fx:l5 x=true):∀{xs:List V} {us:List Value},Vals xs us→xs.all l5=true→∀u∈us,SeqAt.EqAt A s u v (L3 x u)
 | _,_,.nil,_=>fun u hu=>by cases hu
 | y::xs,u::us,.cons r t,f=>fun u' hu=>by
  rw[List.all_cons,abf] at f
  rcases Z8.mp hu with rfl|hu
  ·rw[Jp r f.1];exact Jo r rx f.1 fx
  ·exact zf rx fx t f.2 u' hu
noncomputable def Q7(x:V)(xs:List V):Bool:=xs.any fun y=>Hw y x
noncomputable def rIn(K:Qqy)(neg:Bool):R2:=fun x y H Q=>∃p xs,y=.ref p∧(gH K H p xs∨rG K H p xs)∧l5 x=true∧xs.all l5=true∧Q (.bl (if neg then !Q7 x xs else Q7 x xs)) H
theorem Cj:xp X (compareOp .NotIn) (rIn X.K true):=by
 intro c_ s σ H x y v u Q I rx ry h
 obtain⟨p,xs,rfl,hq,fx,fs,q⟩:=h
 cases ry
 rcases hq with hq|hq
 ·obtain⟨h_,r,pl,hz⟩:=I.list hq
  refine SeqAt.notIn_listAt (L3 x) pl.isList (fun w hw=>zf rx fx r fs w (by simpa using hw)) ⟨.bl _,H,I,rfl,?_⟩
  rw[show h_.toArray.any (L3 x)=h_.any (L3 x) by simp,Ci r fs]
  exact q
 ·obtain⟨h_,r,pl,hz⟩:=I.tuple hq
  refine SeqAt.notIn_tupleAt (L3 x) pl (fun w hw=>zf rx fx r fs w (by simpa using hw)) ⟨.bl _,H,I,rfl,?_⟩
  rw[show h_.toArray.any (L3 x)=h_.any (L3 x) by simp,Ci r fs]
  exact q
theorem gk:tQ X (.builtin "len") (fun xs H Q=>∃p ys,xs=[.ref p]∧(gH X.K H p ys∨rG X.K H p ys)∧Q (.int ys.length) H):=by
 intro c_ s σ H xs us Q I r h
 obtain⟨p,ys,rfl,hq,q⟩:=h
 obtain⟨u,rfl,rx⟩:=vals1 r
 cases rx
 have hn:=ui
 rcases hq with hq|hq
 ·obtain⟨h_,r',pl,hz⟩:=I.list hq
  have hlen:=r'.length
  exact Calls.call_len_list pl.isList (by simp only [aai]<;>omega) ⟨.int ys.length,H,I.tok _,⟨s.toks+1,by rw[aai,hlen]⟩,q⟩
 ·obtain⟨h_,r',pl,hz⟩:=I.tuple hq
  have hlen:=r'.length
  exact len_tuple pl (by simp only [aai]<;>omega) ⟨.int ys.length,H,I.tok _,⟨s.toks+1,by rw[aai,hlen]⟩,q⟩
theorem uX:tQ X (.builtin "len") (fun xs H Q=>∃z,xs=[.str z]∧z.length≤sizeLine∧Q (.int z.length) H):=by
 intro c_ s σ H xs us Q I r h
 obtain⟨z,rfl,hz,q⟩:=h
 obtain⟨u,rfl,t,rfl⟩:=vals1 r
 have hn:=ui
 exact len_str (by omega) ⟨.int z.length,H,I.tok _,⟨_,rfl⟩,q⟩
theorem uY:tQ X (.type "list") (fun xs H Q=>∃p ys,xs=[.ref p]∧(gH X.K H p ys∨rG X.K H p ys)∧∀l,H l=none→Q (.ref l) (upd H l (.lst ys))):=by
 intro c_ s σ H xs us Q I r h
 obtain⟨p,ys,rfl,hq,q⟩:=h
 obtain⟨u,rfl,rx⟩:=vals1 r
 cases rx
 have fin:∀(h_:List Value),Vals ys h_→ys.length≤sizeLine→∀(h':Heap)(c':Nat),(∀b o',s.heap.get? b=some o'→h'.get? b=some o')→
   h'.get? s.heap.objs.size=some {cls:=.type "list",dict:=none,data:=.seq h_.toArray c',slots:=#[]}→EP X c_ σ Q (.ref s.heap.objs.size) {s with heap:=h'}:=fun h_ r' hz h' c' kp e=>
  ⟨.ref s.heap.objs.size,_,I.laid (t':=s.toks) kp (WL _) (show iY X.prog X.w _ h' _ (.lst ys) from ⟨hz,h_,c',r',e⟩),rfl,q _ (I.iH.fresh (WL _))⟩
 rcases hq with hq|hq
 ·obtain⟨h_,r',pl,hz⟩:=I.list hq
  have hlen:=r'.length
  obtain⟨o,ho,hc,n,hd⟩:=pl.isList
  exact call_list_seq p (.inl rfl) ho hc hd (fun h' c' kp e=>fin h_ r' hz h' c' kp e) (by simp only [aai]<;>omega)
 ·obtain⟨h_,r',pl,hz⟩:=I.tuple hq
  have hlen:=r'.length
  obtain⟨o,ho,hc,n,hd⟩:=pl
  exact call_list_seq p (.inr rfl) ho hc hd (fun h' c' kp e=>fin h_ r' hz h' c' kp e) (by simp only [aai]<;>omega)
def Wu(K:Qqy)(T:String)(x:V)(H:Hp):Prop:=match x with
 | .str _=>T="str"
 | .int _=>T="int"
 | .ref p=>(T="list"∧∃xs,gH K H p xs)∨(T="tuple"∧∃o,K.lookup p=some o∧o.cls=.type "tuple"∧o.dict=none)∨
  (T="dict"∧((∃kvs,H p=some (.dK kvs))∨∃kvs,H p=some (.dT kvs)))∨(T="set"∧∃S n,H p=some (.set S n))
 | _=>False
theorem Jq{c_:Qqz}{σ:St}{H:Hp}{s:Shared}{T:String}{x:V}{v:Value}(I:Inv X c_ σ H s)(r:RelV x v)(ty:Wu X.K T x H) :
  s.TypeIs v T∧∀a,v=.ref a→∃ob,s.heap.get? a=some ob∧ob.dict=none:=by
 cases x with
 | str z=>
  obtain⟨t,rfl⟩:=r
  cases (show T="str" from ty)
  exact⟨typeIs_str s z t,fun _ e=>nomatch e⟩
 | int i=>
  obtain⟨t,rfl⟩:=r
  cases (show T="int" from ty)
  exact⟨typeIs_int s i t,fun _ e=>nomatch e⟩
 | ref p=>
  cases r
  rcases ty with⟨rfl,xs,hq⟩|⟨rfl,o,hk,hc,hd⟩|⟨rfl,hk⟩|⟨rfl,S,n,hk⟩
  ·obtain⟨h_,_,pl,_⟩:=I.list hq
   refine⟨pl.isList.typeIs,fun a e=>?_⟩
   cases e
   obtain⟨o,n,e,c,hd,_⟩:=pl
   exact⟨o,e,hd⟩
  ·refine⟨⟨o,I.xo p o hk,hc⟩,fun a e=>?_⟩
   cases e
   exact⟨o,I.xo _ o hk,hd⟩
  ·have z:∃o,s.heap.get? p=some o∧o.ExactDict:=by
    rcases hk with⟨kvs,hk⟩|⟨kvs,hk⟩
    ·obtain⟨_,_,_,_,o,_,_,e,ex,_⟩:=I.iH p _ hk
     exact⟨o,e,ex⟩
    ·obtain⟨_,_,_,_,o,_,_,e,ex,_⟩:=I.iH p _ hk
     exact⟨o,e,ex⟩
   obtain⟨o,e,ex⟩:=z
   refine⟨⟨o,e,ex.1⟩,fun a e2=>?_⟩
   cases e2
   exact⟨o,e,ex.2.1⟩
  ·obtain⟨o,_,_,_,e,ex,_⟩:=I.iH p _ hk
   refine⟨⟨o,e,ex.1⟩,fun a e2=>?_⟩
   cases e2
   exact⟨o,e,ex.2.1⟩
 | _=>exact False.elim ty
def Wv(K:Qqy)(T:String)(r:V→List V→Hp→VK→Prop)(to:TE):TE:=fun σ H Q=>to σ H fun x H1=>Wu K T x H1∧r x [] H1 Q
def tBM(K:Qqy)(T:String)(r:V→List V→Hp→VK→Prop)(to:TE)(t:TA):TE:=fun σ H Q=>to σ H fun x H1=>Wu K T x H1∧t σ H1 fun xs H2=>r x xs H2 Q
variable{o e:Expr}{es:List Expr}{to:TE}{t:TA}{name:Str}{apos k7:Pos}{T id:String}{r:V→List V→Hp→VK→Prop}
theorem OW(pa:PlainAttrs T)(slot:Slot T name id)(To:typeOf (.builtin id)=pure (.type "method_descriptor"))(hm:Wq X id r)(ho:PE X o to)
  (K3:attributeBase o name X.env (eval o X.env)=eval o X.env:=by rfl) (K4:(apos.endLine ==k7.line)=true:=by rfl):PE X (.Call (.Attribute o name apos) [] [] k7) (Wv X.K T r to):=by
 intro c_ s σ H Q I h
 refine wpAny_Call_method0_late K3 K4 (i6 (ho c_ s σ H _ I h) fun v s1 iF=>?_)
 obtain⟨x,H1,I1,r1,ty,q1⟩:=iF
 obtain⟨h1,h2⟩:=Jq I1 r1 ty
 exact⟨T,id,pa,slot,To,h1,h2,abl rfl (PySem.evalArgs_none (hm c_ s1 σ H1 x [] v [] Q I1 r1 .nil q1))⟩
theorem nP(pa:PlainAttrs T)(slot:Slot T name id)(To:typeOf (.builtin id)=pure (.type "method_descriptor"))(hm:Wq X id r)(ho:PE X o to)(ha:PA X (e::es) t)
  (K3:attributeBase o name X.env (eval o X.env)=eval o X.env:=by rfl)
  (Xc:((backTo k7 (starEach (e::es) X.env)).all (fun x=>!x.1)&&(backToKw k7 (keywordEach [] X.env)).all (fun x=>x.1.isSome)
   &&decide ((e::es).length+([]:List Keyword).length+(if([]:List Keyword).isEmpty then 0 else 1)<30))=true:=by rfl)
  (K4:(apos.endLine ==k7.line)=true:=by rfl) (hs:starEach (e::es) X.env=(false,eval e X.env)::starEach es X.env:=by rfl) (Qs:(backTo k7 (starEach es X.env)).any (·.1)=false:=by rfl) :
  PE X (.Call (.Attribute o name apos) (e::es) [] k7) (tBM X.K T r to t):=by
 intro c_ s σ H Q I h
 refine wpAny_Call_method_late K3 Xc K4 rfl (i6 (ho c_ s σ H _ I h) fun v s1 iF=>?_)
 obtain⟨x,H1,I1,r1,ty,q1⟩:=iF
 obtain⟨h1,h2⟩:=Jq I1 r1 ty
 refine⟨T,id,pa,slot,To,h1,h2,?_⟩
 have hA:=ha k7 c_ s1 σ H1 _ I1 q1
 rw[hs] at hA ⊢
 refine abl (by show(false||(backTo k7 (starEach es X.env)).any (·.1))=false;rw[Qs]<;>rfl) (aby ?_)
 exact i6 hA fun us s2 ⟨vs,H2,I2,r2,q2⟩=>hm c_ s2 σ H2 x vs v us Q I2 r1 r2 q2
end
def Ww(X:Cx)(id:String)(r:V→List V→Hp→VK→Prop):Prop:=
 ∀(c_:Qqz)(s:Shared)(σ:St)(H:Hp)(x:V)(xs:List V)(v:Value)(us:List Value)(Q:VK),Inv X c_ σ H s→RelV x v→Vals xs us→r x xs H Q→
  wpAny (model X.prog X.w) X.A (call (.builtin id) (v::us)) (EP X c_ σ Q) X.xe s
theorem Vals.one:∀{x:V} {us:List Value},Vals [x] us→∃u,us=[u]∧RelV x u
 | _,_,.cons r .nil=>⟨_,rfl,r⟩
theorem Vals.zero:∀{us:List Value},Vals [] us→us=[]
 | _,.nil=>rfl
theorem Vals.dropLast{xs:List V}{us:List Value}(h:Vals xs us):Vals xs.dropLast us.dropLast:=by
 induction h with
 | nil=>exact .nil
 | cons r t ih=>
  cases t with
  | nil=>exact .nil
  | cons q t'=>exact .cons r ih
theorem Vals.rep{xs:List V}{us:List Value}(h:Vals xs us):∀k:Nat,Vals (List.replicate k xs).flatten (List.replicate k us).flatten
 | 0=>.nil
 | k+1=>by
  rw[abd,abd,abU,abU]
  exact Vals.append h (Vals.rep h k)
theorem FD{α:Type}(l:List α):l.eraseIdx (l.length-1)=l.dropLast:=by
 induction l with
 | nil=>rfl
 | cons a r ih=>
  cases r with
  | nil=>rfl
  | cons b r=>
   have e:(a::b::r).length-1=((b::r).length-1)+1:=by
    have h1:(a::b::r).length=r.length+2:=rfl
    have h2:(b::r).length=r.length+1:=rfl
    omega
   rw[e,List.eraseIdx_cons_succ,ih]
   all_goals rfl
theorem foldl_rep(h_:List Value):∀(k:Nat)(acc:List Value),
  List.foldl (fun x1 x2=>x1++x2) acc.toArray (List.replicate k h_.toArray)=(acc++(List.replicate k h_).flatten).toArray
 | 0,acc=>by simp
 | k+1,acc=>by
  have e:acc.toArray++h_.toArray=(acc++h_).toArray:=by simp
  have e2:(acc++h_)++(List.replicate k h_).flatten=acc++(List.replicate (k+1) h_).flatten:=by
   rw[abd,abU,aaQ]
  rw[←e2,←foldl_rep h_ k (acc++h_),←e,abd,List.foldl_cons]
section
variable{X:Cx}{c_:Qqz}{σ:St}{H:Hp}{s:Shared}{l b:Addr}{xs ys zs:List V}
theorem Inv.OX{h_ its':List Value}{n:Nat}{f:Array Value→Array Value}{t':Nat}(I:Inv X c_ σ H s)(hH:H l=some (.lst xs))
  (e:s.heap.get? l=some {cls:=.type "list",data:=.seq h_.toArray n}) (hf:f h_.toArray=its'.toArray) (hv:Vals ys its') (hz:ys.length≤sizeLine) :
  Inv X c_ σ (upd H l (.lst ys)) {s with heap:=s.heap.update l (Obj.mapSeq f),toks:=t'}:=by
 have q:=PySem.IsL.update e f
 rw[hf] at q
 refine I.write (x:=l) (e:=l) (by rw[hH];exact trivial) (.inl rfl) (fun b' u hb hu=>(aa1 s.heap (Obj.mapSeq f) (abK hb)).trans hu) ⟨_,q⟩ ?_
 exact⟨hz,its',_,hv,q⟩
theorem Inv.L4{h_:List Value}{t':Nat}(I:Inv X c_ σ H s)(hv:Vals ys h_)(hz:ys.length≤sizeLine) :
  Inv X c_ σ (upd H s.heap.objs.size (.lst ys)) {s with heap:=s.heap.push {cls:=.type "list",data:=.seq h_.toArray},toks:=t'}:=
 I.laid (fun _ _ q=>aab _ q) (WL _) ⟨hz,h_,0,hv,aav _ rfl⟩
theorem Inv.fresh(I:Inv X c_ σ H s):H s.heap.objs.size=none:=I.iH.fresh (WL _)
theorem Inv.FE(I:Inv X c_ σ H s)(hH:H l=some (.lst xs)):xs.length≤sizeLine∧∃(h_:List Value)(n:Nat),Vals xs h_∧xs.length=h_.length∧s.heap.get? l=some {cls:=.type "list",data:=.seq h_.toArray n}:=by
 obtain⟨z,h_,n,r,e⟩:=I.iH l _ hH
 exact⟨z,h_,n,r,r.length,e⟩
theorem Ee{n:Nat}(h:n≤sizeLine):Builtin.List.listTooLong n=false:=by
 unfold Builtin.List.listTooLong
 exact Z6 (by omega)
end
section
variable{X:Cx}
noncomputable def L5:V→List V→Hp→VK→Prop:=fun x vs H Q=>∃l xs y,x=.ref l∧vs=[y]∧H l=some (.lst xs)∧xs.length<sizeLine∧Q .jm (upd H l (.lst (xs++[y])))
theorem jC:Ww X "list.append" L5:=by
 intro c_ s σ H x vs v us Q I rx rv h
 obtain⟨l,xs,y,rfl,rfl,hH,hz,q⟩:=h
 cases rx
 obtain⟨u,rfl,ru⟩:=rv.one
 obtain⟨z,h_,n,r,hl,e⟩:=I.FE hH
 refine call_meets F.slot_list_append ⟨_,e,rfl⟩ F.entry_list_append (F.args_list_append_2 _ _) (PySem.list_append l h_.toArray n u (by rw[aai];omega)) ⟨e,?_⟩
 refine⟨.jm,_,I.OX (its':=h_++[u]) hH e (by simp) (r.append (.cons ru .nil)) ?_,rfl,q⟩
 rw[W4,List.length_singleton]
 omega
noncomputable def L6:V→List V→Hp→VK→Prop:=fun x vs H Q=>∃l b xs zs,x=.ref l∧vs=[.ref b]∧H l=some (.lst xs)∧H b=some (.lst zs)∧xs.length+zs.length≤sizeLine∧Q .jm (upd H l (.lst (xs++zs)))
theorem BA:Ww X "list.extend" L6:=by
 intro c_ s σ H x vs v us Q I rx rv h
 obtain⟨l,b,xs,zs,rfl,rfl,hH,hB,hz,q⟩:=h
 cases rx
 obtain⟨u,rfl,ru⟩:=rv.one
 cases ru
 obtain⟨z,h_,n,r,hl,e⟩:=I.FE hH
 obtain⟨z2,lY,n2,r2,K5,e2⟩:=I.FE hB
 have hsz:h_.toArray.size+lY.toArray.size≤sizeLine:=by rw[aai,aai];omega
 have K6:¬(!h_.toArray.isEmpty&&Builtin.List.listTooLong (h_.toArray.size+lY.toArray.size))=true:=by
  rw[Ee hsz,Bool.and_false]
  exact aaf
 refine call_meets F.slot_list_extend ⟨_,e,rfl⟩ F.entry_list_extend (F.args_list_extend_2 _ _)
  (AutoSeq1.list_extend_list_list_0 l h_.toArray n b lY.toArray n2 K6 (by rw[aai];omega) (by omega)) ⟨e,e2,?_⟩
 refine⟨.jm,_,I.OX (its':=h_++lY) hH e (by simp) (r.append r2) ?_,rfl,q⟩
 rw[W4]
 omega
noncomputable def Wx:V→List V→Hp→VK→Prop:=fun x vs H Q=>∃l xs y,x=.ref l∧vs=[]∧H l=some (.lst xs)∧xs[xs.length-1]?=some y∧Q y (upd H l (.lst xs.dropLast))
theorem OY:Ww X "list.pop" Wx:=by
 intro c_ s σ H x vs v us Q I rx rv h
 obtain⟨l,xs,y,rfl,rfl,hH,hy,q⟩:=h
 cases rx
 have hus:=rv.zero
 subst hus
 obtain⟨z,h_,n,r,hl,e⟩:=I.FE hH
 obtain⟨u,hu,ru⟩:=r.get hy
 have Vg:h_.toArray[h_.toArray.size-1]?=some u:=by
  show h_.toArray[h_.length-1]?=some u
  rw[←aa8,←hl]
  exact hu
 refine call_meets F.slot_list_pop ⟨_,e,rfl⟩ F.entry_list_pop (F.args_list_pop_1 _) (MeetsSeq.list_pop_last l h_.toArray n u Vg (by rw[aai];omega)) ⟨e,?_⟩
 refine⟨y,_,I.OX (its':=h_.dropLast) hH e ?_ r.dropLast ?_,ru,q⟩
 ·show h_.toArray.eraseIdxIfInBounds (h_.toArray.size-1)=h_.dropLast.toArray
  rw[aai,List.eraseIdxIfInBounds_toArray,FD]
 ·rw[List.length_dropLast]
  omega
noncomputable def Wy:R2:=fun x y H Q=>∃l b xs zs,x=.ref l∧y=.ref b∧H l=some (.lst xs)∧H b=some (.lst zs)∧xs.length+zs.length≤sizeLine∧∀p,H p=none→Q (.ref p) (upd H p (.lst (xs++zs)))
theorem nQ:xp X (binaryOp .Add) Wy:=by
 intro c_ s σ H x y v u Q I rx ry h
 obtain⟨l,b,xs,zs,rfl,rfl,hH,hB,hz,q⟩:=h
 cases rx
 cases ry
 obtain⟨z,h_,n,r,hl,e⟩:=I.FE hH
 obtain⟨z2,lY,n2,r2,K5,e2⟩:=I.FE hB
 refine PySem.P.add_list e e2 ?_ (by rw[aai,aai];omega)
 have ea:h_.toArray++lY.toArray=(h_++lY).toArray:=by simp
 rw[ea]
 exact⟨.ref _,_,I.L4 (t':=s.toks) (r.append r2) (by rw[W4];omega),rfl,q _ I.fresh⟩
noncomputable def Wz:R2:=fun x y H Q=>∃l k xs,x=.ref l∧y=.int k∧H l=some (.lst xs)∧-(2 ^ 63)≤k∧k<2 ^ 63∧xs.length*k.toNat≤sizeLine∧
 ∀p,H p=none→Q (.ref p) (upd H p (.lst (List.replicate k.toNat xs).flatten))
theorem len_rep{α:Type}(xs:List α)(k:Nat):(List.replicate k xs).flatten.length=k*xs.length:=by
 induction k with
 | zero=>simp
 | succ k ih=>rw[abd,abU,W4,ih,Nat.succ_mul,Nat.add_comm]
theorem Ck:xp X (binaryOp .Mult) Wz:=by
 intro c_ s σ H x y v u Q I rx ry h
 obtain⟨l,k,xs,rfl,rfl,hH,h1,h2,hz,q⟩:=h
 cases rx
 obtain⟨t,rfl⟩:=ry
 obtain⟨z,h_,n,r,hl,e⟩:=I.FE hH
 have hlen:h_.toArray.size*k.toNat≤sizeLine:=by rw[aai,←hl];exact hz
 have Xd:¬h_.toArray.size*k.toNat>(2 ^ 63-1)/8:=by
  have:(sizeLine:Nat)≤(2 ^ 63-1)/8:=by decide
  omega
 have Xe:¬(!Builtin.List.listFitsIndex k)=true:=by
  rw[fitsIndex_both h1 h2]
  exact aaf
 have K6:¬Builtin.List.listTooLong (h_.toArray.size*k.toNat)=true:=by
  rw[Ee hlen]
  exact aaf
 have Xf:List.foldl (fun x1 x2=>x1++x2) #[] (List.replicate (if h_.toArray.isEmpty=true then 0 else k.toNat) h_.toArray)=(List.replicate k.toNat h_).flatten.toArray:=by
  have f0:∀m:Nat,List.foldl (fun x1 x2=>x1++x2) #[] (List.replicate m h_.toArray)=(List.replicate m h_).flatten.toArray:=fun m=>by
   have:=foldl_rep h_ m []
   rw[List.nil_append] at this
   exact this
  rw[f0]
  cases h_ with
  | nil=>simp
  | cons a r'=>rw[aap (by simp)]
 refine wpAny_binaryOp_repeat_ref (T:="list") (U:="int") (by decide) ⟨_,e,rfl⟩ (fun s'=>typeIs_int s' k t) noFill_list_mul F.fills_int_mul F.slot_int_rmul repeat_list F.slot_int_index.lookup
  (call_meets F.slot_int_rmul (typeIs_int s k t) F.entry_int_rmul (F.args_int_rmul_2 _ _) (int___rmul___int_list k t l h_.toArray n)
   ⟨e,rfl,⟨_,e,rfl⟩,call_meets F.slot_list_mul ⟨_,e,rfl⟩ F.entry_list_mul (F.args_list_mul_2 _ _) (AutoListH.list___mul___list_int_3 l h_.toArray n k t Xe Xd K6) ⟨e,?_⟩⟩)
 rw[Xf]
 exact⟨.ref _,_,I.L4 (t':=s.toks) (r.rep k.toNat) (by rw[len_rep,Nat.mul_comm];exact hz),rfl,q _ I.fresh⟩
end
section
variable{prog:Program}{w:World}{A:Around}{E:Qqq}{s:Shared}
end
section
variable{X:Cx}
end
section
variable{κ:Type}[DecidableEq κ]
noncomputable def iI(kvs:List (κ×V))(k:κ):Option V:=(kvs.find? fun kv=>decide (kv.1=k)).map (·.2)
noncomputable def putK(kvs:List (κ×V))(k:κ)(v:V):List (κ×V):=
 if(kvs.any fun kv=>decide (kv.1=k))=true then kvs.map (fun kv=>if kv.1=k then(kv.1,v) else kv) else kvs++[(k,v)]
noncomputable def jV(kvs:List (κ×V))(k:κ):List (κ×V):=kvs.filter fun kv=>decide (kv.1≠k)
theorem Jr{k:κ}:iI ([]:List (κ×V)) k=none:=rfl
theorem jk{p:κ×V}{r:List (κ×V)}{k:κ}(e:p.1=k):iI (p::r) k=some p.2:=by simp[iI,ab8,e]
theorem je{p:κ×V}{r:List (κ×V)}{k:κ}(e:¬p.1=k):iI (p::r) k=iI r k:=by simp[iI,ab8,e]
theorem rN(k:κ):∀kvs:List (κ×V),(kvs.any fun kv=>decide (kv.1=k))=(iI kvs k).isSome
 | []=>rfl
 | p::r=>by
  rw[List.any_cons]
  by_cases e:p.1=k
  ·simp only [jk e,WM e,Bool.true_or,Option.isSome_some]
  ·rw[je e,Z6 e,Bool.false_or];exact rN k r
theorem Ef(k j:κ)(y:V):∀kvs:List (κ×V),iI (kvs.map fun kv=>if kv.1=k then(kv.1,y) else kv) j=(iI kvs j).map fun x=>if j=k then y else x
 | []=>rfl
 | p::r=>by
  have ih:=Ef k j y r
  rw[aax]
  by_cases h:p.1=k
  ·rw[aar h]
   by_cases e:p.1=j
   ·rw[jk (p:=(p.1,y)) e,jk e,ab9,aar (e.symm.trans h)]
   ·rw[je (p:=(p.1,y)) e,je e,ih]
  ·rw[aap h]
   by_cases e:p.1=j
   ·rw[jk (p:=p) e,jk e,ab9,aap (fun z=>h (e.trans z))]
   ·rw[je (p:=p) e,je e,ih]
theorem BB(k j:κ)(y:V):∀kvs:List (κ×V),iI kvs k=none→iI (kvs++[(k,y)]) j=if j=k then some y else iI kvs j
 | [],_=>by
  by_cases e:k=j
  ·rw[aar e.symm];exact jk (p:=(k,y)) e
  ·rw[aap (fun z=>e z.symm)];exact je (p:=(k,y)) e
 | p::r,hn=>by
  rw[List.cons_append]
  have hk:¬p.1=k:=fun z=>by rw[jk z] at hn;cases hn
  rw[je hk] at hn
  have ih:=BB k j y r hn
  by_cases e:p.1=j
  ·rw[jk e,jk e,aap (fun z=>hk (e.trans z))]
  ·rw[je e,je e,ih]
theorem jW(kvs:List (κ×V))(k j:κ)(y:V):iI (putK kvs k y) j=if j=k then some y else iI kvs j:=by
 unfold putK
 by_cases a:(kvs.any fun kv=>decide (kv.1=k))=true
 ·rw[aar a,Ef]
  rw[rN] at a
  by_cases e:j=k
  ·obtain⟨x,hx⟩:=Option.isSome_iff_exists.mp a
   rw[aar e,e,hx,ab9,aar rfl]
  ·rw[aap e]
   cases iI kvs j with
   | none=>rfl
   | some x=>rw[ab9,aap e]
 ·rw[aap a]
  refine BB k j y kvs ?_
  rw[rN] at a
  cases q:iI kvs k with
  | none=>rfl
  | some x=>rw[q] at a;exact(a rfl).elim
theorem jf(kvs:List (κ×V))(k:κ)(v:V):(putK kvs k v).length≤kvs.length+1:=by
 unfold putK
 split
 ·rw[TU];omega
 ·rw[W4,aac,List.length_nil];omega
theorem Eg{kvs:List (κ×V)}{k:κ}(v:V)(h:iI kvs k=none):putK kvs k v=kvs++[(k,v)]:=by
 unfold putK
 rw[rN,h]
 exact aap (by decide)
theorem pG.pL{o:Option V}{u:Option Value}(r:pG o u):o.isSome=u.isSome:=by
 cases o with
 | none=>cases u with
  | none=>rfl
  | some _=>exact(show False from r).elim
 | some _=>cases u with
  | none=>exact(show False from r).elim
  | some _=>rfl
theorem pG.getD{o:Option V}{u:Option Value}{d:V}{d':Value}(r:pG o u)(rd:RelV d d'):RelV (o.getD d) (u.getD d'):=by
 cases o with
 | none=>cases u with
  | none=>exact rd
  | some _=>exact(show False from r).elim
 | some _=>cases u with
  | none=>exact(show False from r).elim
  | some _=>exact r
theorem KV.val{kvs:List (κ×V)}{vs:List (κ×Value)}(r:KV kvs vs)(k:κ):pG (iI kvs k) (valueAt vs k):=by
 unfold KV at r
 induction r with
 | nil=>exact True.intro
 | @cons p q ps qs h t ih=>
  obtain⟨h1,h2⟩:=h
  by_cases e:p.1=k
  ·have e':q.1=k:=h1.symm.trans e
   have b:valueAt (q::qs) k=some q.2:=by simp[valueAt,ab8,e']
   rw[jk e,b];exact h2
  ·have e':¬q.1=k:=fun z=>e (h1.trans z)
   have b:valueAt (q::qs) k=valueAt qs k:=by simp[valueAt,ab8,e']
   rw[je e,b];exact ih
theorem KV.any{kvs:List (κ×V)}{vs:List (κ×Value)}(r:KV kvs vs)(k:κ):(kvs.any fun kv=>decide (kv.1=k))=vs.any fun kv=>decide (kv.1=k):=by
 unfold KV at r
 induction r with
 | nil=>rfl
 | cons h t ih=>rw[List.any_cons,List.any_cons,ih,h.1]
theorem KV.OZ{kvs:List (κ×V)}{vs:List (κ×Value)}(r:KV kvs vs)(k:κ){y:V}{u:Value}(ry:RelV y u) :
  KV (kvs.map fun kv=>if kv.1=k then(kv.1,y) else kv) (vs.map fun kv=>if kv.1=k then(kv.1,u) else kv):=by
 unfold KV at r ⊢
 induction r with
 | nil=>exact .nil
 | @cons p q ps qs h t ih=>
  rw[aax,aax]
  refine .cons ?_ ih
  obtain⟨h1,h2⟩:=h
  by_cases e:p.1=k
  ·rw[aar e,aar (h1.symm.trans e)];exact⟨h1,ry⟩
  ·rw[aap e,aap (fun z=>e (h1.trans z))];exact⟨h1,h2⟩
theorem KV.put{kvs:List (κ×V)}{vs:List (κ×Value)}(r:KV kvs vs)(k:κ){y:V}{u:Value}(ry:RelV y u):KV (putK kvs k y) (stored vs k u):=by
 unfold putK stored
 rw[r.any k]
 by_cases e:(vs.any fun kv=>decide (kv.1=k))=true
 ·rw[aar e,aar e];exact r.OZ k ry
 ·rw[aap e,aap e];exact Paired.snoc r ⟨rfl,ry⟩
theorem KV.drop{kvs:List (κ×V)}{vs:List (κ×Value)}(r:KV kvs vs)(k:κ):KV (jV kvs k) (without vs k):=by
 unfold KV at r ⊢
 unfold jV without
 induction r with
 | nil=>exact .nil
 | @cons p q ps qs h t ih=>
  obtain⟨h1,h2⟩:=h
  rw[acg,acg]
  by_cases e:p.1=k
  ·have a:¬decide (p.1≠k)=true:=by simp[e]
   have b:¬decide (q.1≠k)=true:=by simp[h1.symm.trans e]
   rw[aap a,aap b];exact ih
  ·have e':¬q.1=k:=fun z=>e (h1.trans z)
   have a:decide (p.1≠k)=true:=by simp[e]
   have b:decide (q.1≠k)=true:=by simp[e']
   rw[aar a,aar b];exact .cons ⟨h1,h2⟩ ih
theorem KV.length{kvs:List (κ×V)}{vs:List (κ×Value)}(r:KV kvs vs):kvs.length=vs.length:=aaj r
theorem Eh(kvs:List (κ×V))(k:κ):(jV kvs k).length≤kvs.length:=aaE _ _
end
theorem zg{P:Program}{w:World}{k:Key}{u:Value}(r:RelV (kV k) u):(jg P w).is k u=true:=by
 cases k with
 | inl i=>obtain⟨t,e⟩:=(show ∃t,u=Value.int i t from r);subst e;exact DV P w i t
 | inr x=>obtain⟨t,e⟩:=(show ∃t,u=Value.str x t from r);subst e;exact DW P w x t
theorem BC{P:Program}{w:World}:∀{ks:List Key} {us:List Value},Vals (ks.map kV) us→ItemsAre (jg P w) ks us
 | [],_,r=>by rw[List.map_nil] at r;cases r;exact .nil
 | k::ks,_,r=>by
  rw[aax] at r
  cases r with
  | cons h t=>exact .cons (zg h) (BC t)
abbrev KT(H:Hp):List (List Key×V)→List (List Key×Addr×Value)→Prop:=Paired fun p q=>p.1=q.1∧H q.2.1=some (.tup (p.1.map kV))∧RelV p.2 q.2.2
theorem KT.val{H:Hp}{kvs:List (List Key×V)}{xs:List (List Key×Addr×Value)}(r:KT H kvs xs)(k:List Key):pG (iI kvs k) ((atKey xs k).map (·.2)):=by
 induction r with
 | nil=>exact True.intro
 | @cons p q ps qs h t ih=>
  obtain⟨h1,_,h2⟩:=h
  by_cases e:p.1=k
  ·have e':q.1=k:=h1.symm.trans e
   have b:atKey (q::qs) k=some q.2:=by simp[atKey,ab8,e']
   rw[jk e,b];exact h2
  ·have e':¬q.1=k:=fun z=>e (h1.trans z)
   have b:atKey (q::qs) k=atKey qs k:=by simp[atKey,ab8,e']
   rw[je e,b];exact ih
theorem KT.OZ{H:Hp}{kvs:List (List Key×V)}{xs:List (List Key×Addr×Value)}(r:KT H kvs xs)(k:List Key){y:V}{u:Value}(ry:RelV y u) :
  KT H (kvs.map fun kv=>if kv.1=k then(kv.1,y) else kv) (xs.map (putAt k u)):=by
 induction r with
 | nil=>exact .nil
 | @cons p q ps qs h t ih=>
  rw[aax,aax]
  refine .cons ?_ ih
  obtain⟨h1,h2,h3⟩:=h
  unfold putAt
  by_cases e:p.1=k
  ·rw[aar e,aar (h1.symm.trans e)];exact⟨h1,h2,ry⟩
  ·rw[aap e,aap (fun z=>e (h1.trans z))];exact⟨h1,h2,h3⟩
theorem KT.put{H:Hp}{kvs:List (List Key×V)}{xs:List (List Key×Addr×Value)}(r:KT H kvs xs)(k:List Key){b:Addr}{y:V}{u:Value}(hb:H b=some (.tup (k.map kV)))(ry:RelV y u) :
  KT H (putK kvs k y) (storedH xs k b u):=by
 have e:(kvs.any fun kv=>decide (kv.1=k))=(atKey xs k).isSome:=by
  rw[rN,(r.val k).pL,Option.isSome_map]
 unfold putK storedH
 rw[e]
 by_cases q:(atKey xs k).isSome=true
 ·rw[aar q,aar q];exact r.OZ k ry
 ·rw[aap q,aap q];exact Paired.snoc r ⟨rfl,hb,ry⟩
theorem KT.keeps{H H':Hp}{kvs:List (List Key×V)}{xs:List (List Key×Addr×Value)}(r:KT H kvs xs)(ht:∀b ys,H b=some (.tup ys)→H' b=some (.tup ys)):KT H' kvs xs:=
 Paired.kC r fun _ _ z=>⟨z.1,ht _ _ z.2.1,z.2.2⟩
section
variable{P:Program}{w:World}{H:Hp}{h:Heap}{a:Addr}
theorem NF{u:HO}(ok:rC P w H h)(e:Rd H a u):iY P w H h a u:=e.ok ok
theorem xt{kvs:List (Key×V)}(ok:rC P w H h)(e:Rd H a (.dK kvs)):kvs.length≤sizeLine∧(a ==sysModules)=false∧∃vs,KV kvs vs∧h.DictOf (jg P w) a vs:=
 show iY P w H h a (.dK kvs) from NF ok e
theorem Js{kvs:List (Key×V)}(ok:rC P w H h)(e:H a=some (.dK kvs)):kvs.length≤sizeLine∧(a ==sysModules)=false∧∃vs,KV kvs vs∧h.DictOf (jg P w) a vs:=xt ok (.inl e)
theorem uj{ks:List Key}(ok:rC P w H h)(e:H a=some (.tup (ks.map kV))):(tupleKind (jg P w)).is h ks a:=by
 obtain⟨_,h_,r,o,h1,h2,n,h3⟩:=(show iY P w H h a (.tup (ks.map kV)) from ok a _ e)
 exact⟨o,h_.toArray,n,h1,h2,h3,by simpa using BC r⟩
theorem xu{kvs:List (List Key×V)}(ok:rC P w H h)(e:Rd H a (.dT kvs)):kvs.length≤sizeLine∧(a ==sysModules)=false∧
  ∃xs,KT H kvs xs∧h.DictOfH (tupleKind (jg P w)) a xs:=by
 obtain⟨z,y,xs,r,o,es,ep,h1,h2,h3,h4,h5⟩:=(show iY P w H h a (.dT kvs) from NF ok e)
 refine⟨z,y,xs,r,o,es,ep,h1,h2,h3,h4,fun x hx=>?_,h5⟩
 have all:∀{l:List (List Key×V)} {m:List (List Key×Addr×Value)},KT H l m→∀x∈m,(tupleKind (jg P w)).is h x.1 x.2.1:=by
  intro l m q
  induction q with
  | nil=>intro x hx;exact nomatch hx
  | @cons p q ps qs hq t ih=>
   intro x hx
   rcases Z8.mp hx with e|hx
   ·subst e
    exact uj ok (by rw[←hq.1];exact hq.2.1)
   ·exact ih x hx
 exact all r x hx
theorem Jt{kvs:List (List Key×V)}(ok:rC P w H h)(e:H a=some (.dT kvs)):kvs.length≤sizeLine∧(a ==sysModules)=false∧
 ∃xs,KT H kvs xs∧h.DictOfH (tupleKind (jg P w)) a xs:=xu ok (.inl e)
end
def iZ(H:Hp)(a:Addr)(y:V)(r:Option V):Prop:=
 (∃kvs k,Rd H a (.dK kvs)∧y=kV k∧r=iI kvs k)∨∃kvs k b,Rd H a (.dT kvs)∧y=.ref b∧H b=some (.tup (k.map kV))∧r=iI kvs k
def mK(H:Hp)(a:Addr)(y v:V)(H':Hp):Prop:=
 (∃kvs k,H a=some (.dK kvs)∧y=kV k∧kvs.length<sizeLine∧H'=upd H a (.dK (putK kvs k v)))∨
 ∃kvs k b,H a=some (.dT kvs)∧y=.ref b∧H b=some (.tup (k.map kV))∧kvs.length<sizeLine∧H'=upd H a (.dT (putK kvs k v))
theorem iZ.k{H:Hp}{a:Addr}{kvs:List (Key×V)}{k:Key}(e:H a=some (.dK kvs)):iZ H a (kV k) (iI kvs k):=.inl ⟨kvs,k,.inl e,rfl,rfl⟩
theorem iZ.t{H:Hp}{a b:Addr}{kvs:List (List Key×V)}{k:List Key}(e:H a=some (.dT kvs))(eb:H b=some (.tup (k.map kV))):iZ H a (.ref b) (iI kvs k):=.inr ⟨kvs,k,b,.inl e,rfl,eb,rfl⟩
theorem mK.k{H:Hp}{a:Addr}{kvs:List (Key×V)}{k:Key}{v:V}(e:H a=some (.dK kvs))(hl:kvs.length<sizeLine):mK H a (kV k) v (upd H a (.dK (putK kvs k v))):=.inl ⟨kvs,k,e,rfl,hl,rfl⟩
theorem mK.t{H:Hp}{a b:Addr}{kvs:List (List Key×V)}{k:List Key}{v:V}(e:H a=some (.dT kvs))(eb:H b=some (.tup (k.map kV)))(hl:kvs.length<sizeLine) :
 mK H a (.ref b) v (upd H a (.dT (putK kvs k v))):=.inr ⟨kvs,k,b,e,rfl,eb,hl,rfl⟩
section
variable{X:Cx}{c_:Qqz}{σ:St}{H:Hp}{s:Shared}{a:Addr}{y v:V}{u r:Value}{o:Option V}{A:Around}{E:Qqq}
theorem Inv.big(I:Inv X c_ σ H s):sysModules<s.heap.objs.size:=by
 have h:mainGlobals<s.heap.objs.size:=(I.mod.glob.keeps I.bk).lt
 exact acp (by decide) h
theorem Hx{Q:Qqq}(hu:A.units+1<cLine)(I:Inv X c_ σ H s)(g:iZ H a y (some v))(ry:RelV y u)(h:∀w' s',Inv X c_ σ H s'→RelV v w'→Q w' s') :
  wpAny (model X.prog X.w) A (getItem (.ref a) u) Q E s:=by
 rcases g with⟨kvs,k,e,ey,l⟩|⟨kvs,k,b,e,ey,eb,l⟩
 ·subst ey
  obtain⟨z,hd,vs,rel,dd⟩:=xt I.iH e
  obtain⟨w',hw,Bp⟩:=pG.some_of (v:=v) (o:=valueAt vs k) (by rw[l];exact rel.val k)
  exact wpAny_getItem_of (zg ry) dd.mapOf hw (h w' _ (I.tok _) Bp)
 ·subst ey
  cases (show u=Value.ref b from ry)
  obtain⟨z,hd,xs,rel,dd⟩:=xu I.iH e
  obtain⟨w',hw,Bp⟩:=pG.some_of (v:=v) (o:=(atKey xs k).map (·.2)) (by rw[l];exact rel.val k)
  obtain⟨p,hp,AZ⟩:=Option.map_eq_some_iff.mp hw
  refine wpAny_getItem_heap (abJ hu) (uj I.iH eb) dd hp ?_
  rw[AZ]
  exact h w' _ (I.tok _) Bp
theorem WA{Q:Qqq}(hu:A.units+1<cLine)(I:Inv X c_ σ H s)(g:iZ H a y o)(ry:RelV y u)(h:∀s',Inv X c_ σ H s'→Q (.bool o.isSome) s') :
  wpAny (model X.prog X.w) A (compareOp .In u (.ref a)) Q E s:=by
 rcases g with⟨kvs,k,e,ey,l⟩|⟨kvs,k,b,e,ey,eb,l⟩
 ·subst ey
  obtain⟨z,hd,vs,rel,dd⟩:=xt I.iH e
  refine wpAny_in_of (zg ry) hd dd.mapOf ?_
  rw[←(rel.val k).pL,←l]
  exact h _ (I.tok _)
 ·subst ey
  cases (show u=Value.ref b from ry)
  obtain⟨z,hd,xs,rel,dd⟩:=xu I.iH e
  refine wpAny_in_heap (abJ hu) (uj I.iH eb) hd dd ?_
  have q:=(rel.val k).pL
  rw[Option.isSome_map] at q
  rw[←q,←l]
  exact h _ (I.tok _)
theorem L7{Q:Qqq}(hu:A.units+1<cLine)(I:Inv X c_ σ H s)(g:iZ H a y o)(ry:RelV y u)(h:∀s',Inv X c_ σ H s'→Q (.bool (!o.isSome)) s') :
  wpAny (model X.prog X.w) A (compareOp .NotIn u (.ref a)) Q E s:=by
 rcases g with⟨kvs,k,e,ey,l⟩|⟨kvs,k,b,e,ey,eb,l⟩
 ·subst ey
  obtain⟨z,hd,vs,rel,dd⟩:=xt I.iH e
  refine wpAny_notIn_of (zg ry) hd dd.mapOf ?_
  rw[←(rel.val k).pL,←l]
  exact h _ (I.tok _)
 ·subst ey
  cases (show u=Value.ref b from ry)
  obtain⟨z,hd,xs,rel,dd⟩:=xu I.iH e
  refine wpAny_notIn_heap (abJ hu) (uj I.iH eb) hd dd ?_
  have q:=(rel.val k).pL
  rw[Option.isSome_map] at q
  rw[←q,←l]
  exact h _ (I.tok _)
theorem s_{h':Heap}{t':Nat}{ob:HO}(I:Inv X c_ σ H s)(mu:Nx (H a))(hs:Heap.SameBut a s.heap h')(he:∃q,h'.get? a=some q)(new:iY X.prog X.w (upd H a ob) h' a ob) :
  Inv X c_ σ (upd H a ob) {s with heap:=h',toks:=t'}:=
 I.write (x:=a) (e:=a) mu (.inl rfl) (fun b q hb z=>(hs.2 b hb).trans z) he new
theorem FF{P:Program}{w:World}{H':Hp}{h':Heap}{kvs:List (Key×V)}{vs:List (Key×Value)}(z:kvs.length≤sizeLine)(hd:(a ==sysModules)=false)(rel:KV kvs vs)(dd:h'.DictOf (jg P w) a vs) :
 iY P w H' h' a (.dK kvs):=⟨z,hd,vs,rel,dd⟩
theorem Hy{H':Hp}{Q:Unit→Shared→Prop}(hu:A.units+1<cLine)(I:Inv X c_ σ H s)(g:mK H a y v H')(ry:RelV y u)(rv:RelV v r)(h:∀s',Inv X c_ σ H' s'→Q () s') :
  wpAny (model X.prog X.w) A (setItem (.ref a) u r) Q E s:=by
 rcases g with⟨kvs,k,e,ey,l,eH⟩|⟨kvs,k,b,e,ey,eb,l,eH⟩
 ·subst ey eH
  obtain⟨z,hd,vs,rel,dd⟩:=Js I.iH e
  have hz:vs.length≤sizeLine:=by rw[←rel.length];exact z
  have hl:(putK kvs k v).length≤sizeLine:=by have:=jf kvs k v;omega
  refine wpAny_setItem_pairs (hsz:=hz) (zg ry) dd fun h' LI hs=>h _ ?_
  have he:∃q,h'.get? a=some q:=let ⟨q,_,_,hq,_⟩:=LI;⟨q,hq⟩
  exact s_ I (by rw[e];exact True.intro) hs he (FF hl hd (rel.put k rv) LI)
 ·subst ey eH
  cases (show u=Value.ref b from ry)
  obtain⟨z,hd,xs,rel,dd⟩:=Jt I.iH e
  have hz:xs.length≤sizeLine:=by rw[←aaj rel];exact z
  have hl:(putK kvs k v).length≤sizeLine:=by have:=jf kvs k v;omega
  refine wpAny_setItem_heap (hsz:=hz) (abJ hu) (uj I.iH eb) dd fun h' LI hs=>h _ ?_
  obtain⟨q,es,ep,hq,h2,h3,h4,_,h5⟩:=LI
  refine s_ I (by rw[e];exact True.intro) hs ⟨q,hq⟩ ⟨hl,hd,_,(rel.put k eb rv).keeps fun c ys ec=>?_,q,es,ep,hq,h2,h3,h4,h5⟩
  rw[e_ (i7 ec e (fun z=>nomatch z))]
  exact ec
end
section
variable{X:Cx}{c_:Qqz}{σ:St}{H:Hp}{s:Shared}{a:Addr}{kvs:List (Key×V)}{k:Key}{u:Value}{A:Around}{E:Qqq}
theorem Sg{v:V}{more:List Value}{Q:Qqq}(I:Inv X c_ σ H s)(e:H a=some (.dK kvs))(ry:RelV (kV k) u)(l:iI kvs k=some v)(hm:more=[]∨∃x,more=[x])
  (h:∀w' s',Inv X c_ σ (upd H a (.dK (jV kvs k))) s'→RelV v w'→Q w' s'):wpAny (model X.prog X.w) A (call (.builtin "dict.pop") (.ref a::u::more)) Q E s:=by
 obtain⟨z,hd,vs,rel,dd⟩:=Js I.iH e
 obtain⟨w',hw,Bp⟩:=pG.some_of (v:=v) (o:=valueAt vs k) (by rw[←l];exact rel.val k)
 have hp:(keyPart u).isSome=true:=by
  cases k with
  | inl i=>obtain⟨t,q⟩:=(show ∃t,u=Value.int i t from ry);subst q;rfl
  | inr x=>obtain⟨t,q⟩:=(show ∃t,u=Value.str x t from ry);subst q;rfl
 have ha:argsOk "dict.pop" ⟨.ref a::u::more,[]⟩:=by
  rcases hm with q|⟨x,q⟩
  ·subst q;exact PySem.F.args_dict_pop_2 _ _
  ·subst q;exact PySem.F.args_dict_pop_3 _ _ _
 refine call_meetsIn ab_ dd.typeIs PySem.F.entry_dict_pop ha (meets_dict_pop_there (jg X.prog X.w) a (zg ry) more hm hp)
  ⟨vs,w',dd,by rw[←rel.length];exact z,hw,fun h' LI hs=>h w' _ ?_ Bp⟩
 have he:∃q,h'.get? a=some q:=let ⟨q,_,_,hq,_⟩:=LI;⟨q,hq⟩
 exact s_ I (by rw[e];exact True.intro) hs he (FF (XI (Eh kvs k) z) hd (rel.drop k) LI)
end
def O0(i:Expr):Prop:=∀ov iv,subscripted i false ov iv=operate [ov,iv] (getItem ov iv)
theorem L8{prog:Program}{w:World}{A:Around}{E:Qqq}{s:Shared}{env:Env}{value slice:Expr}{pos:Pos}{T id:String}{Q:Qqq}
  (hl:typeLookup (.type T) "__getitem__"=pure (some (.builtin id))) (hs:O0 slice)
  (h:wpAny (model prog w) A (eval value env) (fun o s₁=>wpAny (model prog w) A (eval slice env) (fun i s₂=>s₂.TypeIs o T∧wpAny (model prog w) A (getItem o i) Q E s₂) E s₁) E s) :
  wpAny (model prog w) A (eval (.Subscript value slice pos) env) Q E s:=by
 refine Subscript_ (abA h (fun o s₁ h₁=>abA h₁ (fun i s₂ h₂=>?_) fun _ _ x=>x) fun _ _ x=>x)
 obtain⟨hT,h₂⟩:=h₂
 unfold subscriptTail
 refine T1 ?_
 rw[getitemInPython_of_ne hT.not_modules]
 refine T1 (aca hT hl ?_)
 have fin:wpAny (model prog w) A (subscripted slice false o i) (fun r s₃=>wpAny (model prog w) A (letTemporaryGo value o r >>= fun _=>pure r) Q E s₃) E s₂:=by
  rw[hs o i]
  exact wpAny_operating (abA h₂ (fun r s₃ h₃=>T1 (wpAny_letTemporaryGo (aag h₃))) fun _ _ x=>x)
 first
  | exact aag (T1 fin)
  | exact T1 (aag (T1 fin))
  | exact T1 fin
theorem Ei{X:Cx}{c_:Qqz}{σ:St}{H:Hp}{s:Shared}{a:Addr}{y:V}{o:Option V}(I:Inv X c_ σ H s)(g:iZ H a y o):s.TypeIs (.ref a) "dict":=by
 rcases g with⟨kvs,k,e,_,_⟩|⟨kvs,k,b,e,_,_,_⟩
 ·obtain⟨_,_,vs,_,dd⟩:=xt I.iH e
  exact dd.typeIs
 ·obtain⟨_,_,xs,_,dd⟩:=xu I.iH e
  exact dd.typeIs
def NG(td ty:TE):TE:=fun σ H Q=>td σ H fun x H1=>ty σ H1 fun y H2=>∃a v,x=.ref a∧iZ H2 a y (some v)∧Q v H2
def WB(ty td:TE):TE:=fun σ H Q=>ty σ H fun y H1=>td σ H1 fun x H2=>∃a o,x=.ref a∧iZ H2 a y o∧Q (.bl o.isSome) H2
def L9(ty td:TE):TE:=fun σ H Q=>ty σ H fun y H1=>td σ H1 fun x H2=>∃a o,x=.ref a∧iZ H2 a y o∧Q (.bl (!o.isSome)) H2
def Sh(td ty tv:TE):TS:=fun D σ H=>tv σ H fun v H1=>td σ H1 fun x H2=>ty σ H2 fun y H3=>∃a H4,x=.ref a∧mK H3 a y v H4∧D.nx σ H4
section
variable{X:Cx}{o i e value:Expr}{pos pos' Qr:Pos}{td ty tv:TE}
theorem L_(hu:X.A.units+1<cLine)(ho:PE X o td)(hi:PE X i ty)(hs:O0 i):PE X (.Subscript o i pos) (NG td ty):=by
 intro c_ s σ H Q I h
 refine L8 PySem.F.slot_dict_getitem.lookup hs (i6 (ho c_ s σ H _ I h) fun u s1 iF=>?_)
 obtain⟨x,H1,I1,rx,q1⟩:=iF
 refine i6 (hi c_ s1 σ H1 _ I1 q1) fun iv s2 ID=>?_
 obtain⟨y,H2,I2,ry,a,v,ex,g,q2⟩:=ID
 subst ex
 obtain rfl:u=Value.ref a:=rx
 exact⟨Ei I2 g,Hx hu I2 g ry fun w' s3 I3 Bp=>⟨v,H2,I3,Bp,q2⟩⟩
theorem nR(hu:X.A.units+1<cLine)(hi:PE X i ty)(ho:PE X o td):PC X .In i o (WB ty td):=by
 intro c_ s σ H Q I h
 refine i6 (hi c_ s σ H _ I h) fun iv s1 iF=>?_
 obtain⟨y,H1,I1,ry,q1⟩:=iF
 refine i6 (ho c_ s1 σ H1 _ I1 q1) fun u s2 ID=>?_
 obtain⟨x,H2,I2,rx,a,ov,ex,g,q2⟩:=ID
 subst ex
 obtain rfl:u=Value.ref a:=rx
 exact WA hu I2 g ry fun s3 I3=>⟨.bl ov.isSome,H2,I3,rfl,q2⟩
theorem jX(hu:X.A.units+1<cLine)(hi:PE X i ty)(ho:PE X o td):PC X .NotIn i o (L9 ty td):=by
 intro c_ s σ H Q I h
 refine i6 (hi c_ s σ H _ I h) fun iv s1 iF=>?_
 obtain⟨y,H1,I1,ry,q1⟩:=iF
 refine i6 (ho c_ s1 σ H1 _ I1 q1) fun u s2 ID=>?_
 obtain⟨x,H2,I2,rx,a,ov,ex,g,q2⟩:=ID
 subst ex
 obtain rfl:u=Value.ref a:=rx
 exact L7 hu I2 g ry fun s3 I3=>⟨.bl (!ov.isSome),H2,I3,rfl,q2⟩
theorem jn(hu:X.A.units+1<cLine)(ho:PE X o td)(hi:PE X i ty)(hv:PE X value tv)(hs:swapsWith value (some (.Subscript o i pos')) pos.line X.env=pure false) :
  PS X (.Assign [.Subscript o i pos'] value pos) (Sh td ty tv):=by
 intro c_ s σ H D I h
 refine wpAny_Assign_Subscript (i6 (hv c_ s σ H _ I h) fun r s1 iF=>?_) hs
 obtain⟨v,H1,I1,rv,q1⟩:=iF
 refine i6 (ho c_ s1 σ H1 _ I1 q1) fun u s2 ID=>?_
 obtain⟨x,H2,I2,rx,q2⟩:=ID
 refine i6 (hi c_ s2 σ H2 _ I2 q2) fun iv s3 zz2=>?_
 obtain⟨y,H3,I3,ry,a,H4,ex,g,q3⟩:=zz2
 subst ex
 obtain rfl:u=Value.ref a:=rx
 exact Hy hu I3 g ry rv fun s4 I4=>⟨σ,H4,I4,q3⟩
end
theorem Ju{P:Program}{w:World}{H:Hp}(h:Heap)(hb:sysModules<h.objs.size):iY P w H (h.push {cls:=.type "dict",data:=.dict #[]}) h.objs.size (.dK []):=
 ⟨aaz _,beq_eq_false_iff_ne.mpr (abK (aaU hb)),[],.nil,Heap.DictOf.new h⟩
theorem Jw{P:Program}{w:World}{H:Hp}(h:Heap)(hb:sysModules<h.objs.size):iY P w H (h.push {cls:=.type "dict",data:=.dict #[]}) h.objs.size (.dT []):=
 ⟨aaz _,beq_eq_false_iff_ne.mpr (abK (aaU hb)),[],.nil,_,#[],0,aav _ rfl,⟨rfl,rfl,rfl⟩,rfl,rfl,abp⟩
def O1:TE:=fun _ H Q=>∀p,H p=none→Q (.ref p) (upd H p (.dK []))
def O2:TE:=fun _ H Q=>∀p,H p=none→Q (.ref p) (upd H p (.dT []))
section
variable{X:Cx}{pos:Pos}
theorem nS:PE X (.Dict [] [] pos) O1:=fun c_ s σ H Q I h=>
 wpAny_Dict_empty ⟨.ref s.heap.objs.size,_,I.laid (a:=s.heap.objs.size) (o:=.dK []) (t':=s.toks) (fun _ _ q=>aab _ q) (WL _) (Ju s.heap I.big),rfl,h _ (I.iH.fresh (WL _))⟩
theorem lD:PE X (.Dict [] [] pos) O2:=fun c_ s σ H Q I h=>
 wpAny_Dict_empty ⟨.ref s.heap.objs.size,_,I.laid (a:=s.heap.objs.size) (o:=.dT []) (t':=s.toks) (fun _ _ q=>aab _ q) (WL _) (Jw s.heap I.big),rfl,h _ (I.iH.fresh (WL _))⟩
end
structure M1(X:Cx)(o:Expr)(m:Str)(apos:Pos)(e:Expr)(k7:Pos):Prop where
 base:attributeBase o m X.env (eval o X.env)=eval o X.env
 jA:((backTo k7 (starEach [e] X.env)).all (fun x=>!x.1)&&(backToKw k7 (keywordEach [] X.env)).all (fun x=>x.1.isSome)
  &&decide (([e]:List Expr).length+([]:List Keyword).length+(if([]:List Keyword).isEmpty then 0 else 1)<30))=true
 line:(apos.endLine ==k7.line)=true
 trees:backTo k7 (starEach [e] X.env)=[(false,eval e X.env)]
structure M2(X:Cx)(o:Expr)(m:Str)(apos:Pos)(e f:Expr)(k7:Pos):Prop where
 base:attributeBase o m X.env (eval o X.env)=eval o X.env
 jA:((backTo k7 (starEach [e,f] X.env)).all (fun x=>!x.1)&&(backToKw k7 (keywordEach [] X.env)).all (fun x=>x.1.isSome)
  &&decide (([e,f]:List Expr).length+([]:List Keyword).length+(if([]:List Keyword).isEmpty then 0 else 1)<30))=true
 line:(apos.endLine ==k7.line)=true
 trees:backTo k7 (starEach [e,f] X.env)=[(false,eval e X.env),(false,eval f X.env)]
def Q8(H:Hp)(a:Addr):Prop:=(∃kvs,Rd H a (.dK kvs))∨∃kvs,Rd H a (.dT kvs)
theorem zh{X:Cx}{c_:Qqz}{σ:St}{H:Hp}{s:Shared}{a:Addr}(I:Inv X c_ σ H s)(d:Q8 H a) :
  s.TypeIs (.ref a) "dict"∧(∀b,Value.ref a=.ref b→∃ob,s.heap.get? b=some ob∧ob.dict=none)∧(a ==sysModules)=false:=by
 rcases d with⟨kvs,e⟩|⟨kvs,e⟩
 ·obtain⟨_,hd,vs,_,dd⟩:=xt I.iH e
  refine⟨dd.typeIs,fun b q=>?_,hd⟩
  cases q
  obtain⟨ob,_,_,h1,h2,_⟩:=dd
  exact⟨ob,h1,h2.2.1⟩
 ·obtain⟨_,hd,xs,_,dd⟩:=xu I.iH e
  refine⟨dd.typeIs,fun b q=>?_,hd⟩
  cases q
  obtain⟨ob,_,_,h1,h2,_⟩:=dd
  exact⟨ob,h1,h2.2.1⟩
section
variable{X:Cx}{c_:Qqz}{σ:St}{H:Hp}{s:Shared}{a:Addr}{y d:V}{u r:Value}{o:Option V}{A:Around}{E:Qqq}
theorem O3{Q:Qqq}(hu:A.units+1<cLine)(I:Inv X c_ σ H s)(g:iZ H a y o)(ry:RelV y u)(rd:RelV d r)(h:∀w' s',Inv X c_ σ H s'→RelV (o.getD d) w'→Q w' s') :
  wpAny (model X.prog X.w) A (call (.builtin "dict.get") [.ref a,u,r]) Q E s:=by
 rcases g with⟨kvs,k,e,ey,l⟩|⟨kvs,k,b,e,ey,eb,l⟩
 ·subst ey
  obtain⟨z,hd,vs,rel,dd⟩:=xt I.iH e
  refine call_meetsIn PySem.F.slot_dict_get dd.typeIs PySem.F.entry_dict_get (PySem.F.args_dict_get_3 _ _ _) (meets_dict_get_default (jg X.prog X.w) a (zg ry) hd r) ⟨_,dd.mapOf,h _ _ (I.tok _) ?_⟩
  rw[l]
  exact(rel.val k).getD rd
 ·subst ey
  cases (show u=Value.ref b from ry)
  obtain⟨z,hd,xs,rel,dd⟩:=xu I.iH e
  refine call_meetsIn PySem.F.slot_dict_get dd.typeIs PySem.F.entry_dict_get (PySem.F.args_dict_get_3 _ _ _) (meetsH_dict_get_default (tupleKind (jg X.prog X.w)) a b hd r) ⟨abJ hu,k,xs,uj I.iH eb,dd,h _ _ (I.tok _) ?_⟩
  rw[l]
  exact(rel.val k).getD rd
end
def O4(td ty tx:TE):TE:=fun σ H Q=>td σ H fun x H1=>∃a,x=.ref a∧Q8 H1 a∧ty σ H1 fun y H2=>tx σ H2 fun z H3=>∃o,iZ H3 a y o∧Q (o.getD z) H3
def O5(td ty:TE):TE:=fun σ H Q=>td σ H fun x H1=>∃a,x=.ref a∧Q8 H1 a∧ty σ H1 fun y H2=>∃kvs k v,H2 a=some (.dK kvs)∧y=kV k∧iI kvs k=some v∧Q v (upd H2 a (.dK (jV kvs k)))
section
variable{X:Cx}{o e f:Expr}{apos k7:Pos}{td ty tx:TE}
theorem Jx(hu:X.A.units+1<cLine)(ho:PE X o td)(he:PE X e ty)(hf:PE X f tx)(m:M2 X o "get" apos e f k7):PE X (.Call (.Attribute o "get" apos) [e,f] [] k7) (O4 td ty tx):=by
 intro c_ s σ H Q I h
 refine wpAny_Call_method m.base m.jA m.line abO PySem.F.slot_dict_get PySem.F.type_dict_get (i6 (ho c_ s σ H _ I h) fun u s1 iF=>?_)
 obtain⟨x,H1,I1,rx,a,ex,d,q1⟩:=iF
 subst ex
 obtain rfl:u=Value.ref a:=rx
 obtain⟨t1,t2,_⟩:=zh I1 d
 refine⟨t1,t2,?_⟩
 rw[m.trees]
 refine abl rfl (aby (abj (i6 (he c_ s1 σ H1 _ I1 q1) fun iv s2 ⟨y,H2,I2,ry,q2⟩=>
  abj (i6 (hf c_ s2 σ H2 _ I2 q2) fun fv s3 ⟨z,H3,I3,rz,ov,g,q3⟩=>abB ?_))))
 exact O3 hu I3 g ry rz fun w' s4 I4 Bp=>⟨_,H3,I4,Bp,q3⟩
theorem Jy(ho:PE X o td)(he:PE X e ty)(m:M1 X o "pop" apos e k7):PE X (.Call (.Attribute o "pop" apos) [e] [] k7) (O5 td ty):=by
 intro c_ s σ H Q I h
 refine wpAny_Call_method m.base m.jA m.line abO ab_ PySem.F.type_dict_pop (i6 (ho c_ s σ H _ I h) fun u s1 iF=>?_)
 obtain⟨x,H1,I1,rx,a,ex,d,q1⟩:=iF
 subst ex
 obtain rfl:u=Value.ref a:=rx
 obtain⟨t1,t2,_⟩:=zh I1 d
 refine⟨t1,t2,?_⟩
 rw[m.trees]
 refine abl rfl (aby (abj (i6 (he c_ s1 σ H1 _ I1 q1) fun iv s2 iF=>?_)))
 obtain⟨y,H2,I2,ry,kvs,k,v,ea,ey,l,q2⟩:=iF
 refine abB ?_
 subst ey
 exact Sg I2 ea ry l (.inl rfl) fun w' s3 I3 Bp=>⟨v,_,I3,Bp,q2⟩
end
section
variable{X:Cx}{c_:Qqz}{σ:St}{H:Hp}{s:Shared}{a:Addr}{kvs:List (Key×V)}{A:Around}{E:Qqq}
end
section
variable{X:Cx}{c_:Qqz}{σ:St}{H:Hp}{s:Shared}{a:Addr}{y:V}{u:Value}{A:Around}{E:Qqq}
end
end L2
namespace Z2
open PySem PySem.W PySem.Calls PyProof.Rows
theorem yu{P:Params}{h:Heap}:∀(ns:List Int)(vs:List Value),WellAll P h vs (ns.map WData.int)→IntsAre vs ns:=by
 intro ns
 induction ns with
 | nil=>
  intro vs w
  rw[List.map_nil] at w
  cases w
  exact .nil
 | cons n ns ih=>
  intro vs w
  rw[aax] at w
  cases w with
  | cons a b=>
   cases a
   exact .cons _ _ (ih _ b)
theorem Hz{l:OpenLaw}{n:Nat}(hn:l.most=some n){P:Params}{h:Heap}{args:List WData}{vals:List Value}
  (IF:l.row.toRowW.claim.pre args=true) (N0:WellAll P h vals args) :
  ∃a vs ns,vals=[Value.ref a]∧args=[WData.list (ns.map WData.int)]∧h.get? a=some {cls:=.type "list",data:=.seq vs.toArray}∧IntsAre vs ns∧ns.length≤n:=by
 have hsh:WShape.hasAll [] args [.list .int]=true:=(pre_splitW IF).1
 have hc:l.pre.holds [] {args:=args}=true:=(pre_splitW IF).2
 obtain⟨d,r,rfl,h1,h2⟩:=hasAllW_cons hsh
 obtain rfl:=hasAllW_nil h2
 obtain⟨xs,rfl,h3⟩:=hasW_list h1
 obtain⟨ns,rfl⟩:=items_int h3
 have hlen:ns.length≤n:=by
  unfold OpenLaw.pre at hc
  have h4:(WTm.not (.lt (.lit (.int (n:Int))) (.len (.arg 0)))).holds [] {args:=[.list (ns.map .int)]}=true:=by
   have h4:=(holds_andW hc).1
   rw[hn] at h4
   exact h4
  have h5:=condW_of h4 (w_not (w_lt w_lit (w_len_list (w_arg rfl))))
  rw[TU] at h5
  refine Nat.le_of_not_lt fun q=>?_
  have q':(n:Int)<((ns.length:Nat):Int):=by omega
  first
   | (rw[WM q'] at h5;exact absurd h5 (by decide))
   | (simp at h5;omega)
 cases N0 with
 | cons w1 w2=>
  cases w2
  cases w1 with
  | list ho yG=>exact⟨_,_,ns,rfl,rfl,ho,yu ns _ yG,hlen⟩
theorem HA(l:OpenLaw)(args:List WData):l.row.toRowW.claim.post args (.bool true) args=true:=
 postW_of (r:=l.row.toRowW) (X:=(true ==true))
  (show WShape.has [] (.bool true) .bool=true by first|rfl|decide|simp[WShape.has,WShape.arms,WShape.armsAll])
  (show(WTm.eq .res (.lit (.bool true))).value [] {args:=args,res:=some (.bool true),after:=args}=some (.bool (true ==true)) from w_eq_bool (w_res rfl) w_lit) rfl
theorem Ej{l:OpenLaw}{n:Nat}{q:Program}{loose:List Str}{XP:(Qqx)→Heap→Prop}{YP:World→Heap→Prop}{d:DefRec}
  (hn:l.most=some n) (Tp:d.params.defaults=[])
  (call:∀(w:World)(s₀ s₁:Shared)(mg mb:Qqx)(fa:Addr)(o:Obj)(pm cd doc:Value)(a:Addr)(vs:List Value)(ns:List Int),
   Ground q loose [] XP w s₀ mg mb s₁.heap→YP w s₁.heap→
   s₁.heap.get? fa=some o→o.data=.func (docDef d.name d.params d.body d.scope pm cd doc)→s₁.heap.CodeRec cd d.name→mg d.name=some (.ref fa)→
   s₁.heap.get? a=some {cls:=.type "list",data:=.seq vs.toArray}→IntsAre vs ns→ns.length≤n→s₁.gens=#[]→
   codeAny (model l.prog w) callerA (.call (.ref fa) ⟨[.ref a],[]⟩) (fun r s'=>r=.ok (.ret (.bool true))∧OldK s₁.heap s'.heap∧s'.os=s₁.os∧AllBare s'.gens) s₁) :
  WalkO q loose XP YP l.row.toRowW d [] (fun f vs=>PySem.call f vs):=by
 intro w s₀ s₁ mg mb G Y fa o pm cd doc dV kV ho hd B5 hD Tq hg args vals as IF hlay hrd N0 Xg
 obtain rfl:dV=.none:=Dflts.none hD Tp
 obtain rfl:kV=.none:=Dflts.noKw hD
 obtain⟨a,vs,ns,rfl,rfl,Qt,hints,hlen⟩:=Hz hn IF N0
 refine enter_call (codeAny_mono (call w s₀ s₁ mg mb fa o pm cd doc a vs ns G Y ho (fd_plain hd) B5 Tq Qt hints hlen hg) fun r s' hq=>?_)
 obtain⟨rfl,h2,h3,h4⟩:=hq
 exact⟨.inl ⟨.bool true,.bool true,[],rfl,fun _=>rfl,.bool true,HA l _,fun _=>⟨List.Pairwise.nil,fun _ hm=>(nomatch hm)⟩⟩,h2,h3,h4⟩
section
variable{prog:Program}{w:World}{A:Around}{E:Qqq}{s:Shared}{K:Frag}
def ledger(h:Heap)(L d:Addr):Qqz:=(List.range h.objs.size).filterMap fun a=>if a=L∨a=d then none else(h.get? a).map fun o=>(a,o)
end
end Z2
namespace L2
open PySem PySem.Spec PyProof.Rows
theorem BD:∀{vs:List Value} {ns:List Int},IntsAre vs ns→Vals (ns.map V.int) vs
 | _,_,.nil=>.nil
 | _,_,.cons n t h=>.cons ⟨t,rfl⟩ (BD h)
def O6(H:Hp):Prop:=∀b,H b=none∨∃o xs,H b=some (.nq o (.lst xs))
theorem Jz{P:Program}{w:World}{K:Qqy}{mg mb:Qqx}{CX:GI}{k:Nat}{fa a:Addr}{fd:FuncData}{x:Str}{sp:Sp}{s₁:Shared}{vs:List Value}{ns:List Int}
  (KX:K.In s₁.heap) (hns:s₁.heap.Ns mainGlobals mg) (hb:s₁.heap.Ns builtinsNs mb) (Rj:∀x:Str,x≠"__name__"→mb x=bootBuiltins x) (Xh:s₁.heap.NoLimit) (hg:s₁.gens=#[])
  (ha:s₁.heap.get? a=some {cls:=.type "list",data:=.seq vs.toArray}) (hi:IntsAre vs ns) (hl:ns.length≤sizeLine) (hr:kE k callerA)
  (F:∀base:Heap,K.In base→base.Ns mainGlobals mg→ij P w K mg base CX k fa fd [x] sp) (Tr:∀(s:Shared)(u:Value),BindsTo s fd ⟨[u],[]⟩ [(x,u)])
  (LH:∀H:Hp,O6 H→gH K H a (ns.map V.int)→sp [.ref a] H (fun v _=>v=.bl true) fun _ _ _=>False)
  (Xi:∀H e s',CX [] H s₁ (fun _ _ _=>False) e s'→False) :
  codeAny (model P w) callerA (.call (.ref fa) ⟨[.ref a],[]⟩) (fun r s'=>r=.ok (.ret (.bool true))∧OldK s₁.heap s'.heap∧s'.os=s₁.os∧AllBare s'.gens) s₁:=by
 have rv:=BD hi
 have Xj:=hi.length
 have core:∀H:Hp,O6 H→gH K H a (ns.map V.int)→rC P w H s₁.heap→(∀b,H b≠none→b=a)→(H a≠none→K.lookup a=none)→
   codeAny (model P w) callerA (.call (.ref fa) ⟨[.ref a],[]⟩) (fun r s'=>r=.ok (.ret (.bool true))∧OldK s₁.heap s'.heap∧s'.os=s₁.os∧AllBare s'.gens) s₁:=by
  intro H hO hS iH hA hK
  have Hg:∀{b:Addr} {o:Obj},s₁.heap.get? b=some o→H b=none→(B_ s₁.heap H).get? b=some o:=fun e n=>I_ e n
  have Tj:∀{b:Addr} {o:Obj} {es:Array DictEntry} {ep:Nat},s₁.heap.get? b=some o→o.data=.dict es ep→H b=none:=fun{b o es ep} e d=>by
   cases q:H b with
   | none=>rfl
   | some u=>
    have e':b=a:=hA b (by rw[q];simp)
    subst e'
    rw[ha] at e;cases e
    have d':Data.seq vs.toArray _=Data.dict es ep:=d
    cases d'
  have Vh:∀{b:Addr} {m:Qqx},s₁.heap.Ns b m→(B_ s₁.heap H).Ns b m:=fun{b m} ⟨o,es,ep,e,d,r⟩=>⟨o,es,ep,Hg e (Tj e d),d,r⟩
  have hKb:K.In (B_ s₁.heap H):=fun b o e=>Hg (KX b o e) (by
   cases q:H b with
   | none=>rfl
   | some u=>
    have e':b=a:=hA b (by rw[q];simp)
    subst e'
    rw[hK (by rw[q];simp)] at e;cases e)
  have hM:Mod K mg (B_ s₁.heap H):=⟨hKb,Vh hns,⟨mb,Vh hb,Rj⟩,let ⟨mc,h1,h2⟩:=Xh;⟨mc,Vh h1,h2⟩⟩
  have e0:Fy P w K mg (B_ s₁.heap H) callerA [] s₁ H:=⟨rfl,hM,fun b o e=>LS e,Nat.le_of_eq (Hm _ _),trivial,fun b hb=>absurd (show b∈([]:List Addr) from hb) (by simp),iH,.of_eq hg⟩
  refine codeAny_mono ((F _ hKb (Vh hns)).run callerA [] s₁ H ⟨[.ref a],[]⟩ [.ref a] [.ref a] _ _ hr e0 (Tr s₁ (.ref a)) (.cons rfl .nil) (LH H hO hS)) fun r s' h=>?_
  cases r with
  | error e=>exact(Xi H e s' h).elim
  | ok fl=>
   cases fl with
   | next=>exact False.elim h
   | brk=>exact False.elim h
   | cont=>exact False.elim h
   | ret u=>
    obtain⟨v,H',os,bare,un,Xk,r',q⟩:=h
    have q':v=.bl true:=q
    subst q'
    obtain rfl:u=Value.bool true:=r'
    refine⟨rfl,OldK.of_keep fun b o e=>?_,os,bare⟩
    cases q:H b with
    | none=>exact un.keep b o e q (by intro z;exact absurd (show b∈([]:List Addr) from z) (by simp)) (by simp)
    | some u=>
     rcases hO b with z|⟨ob,xs,z⟩
     ·rw[q] at z;cases z
     ·have z2:=un.uP b ob _ z
      obtain⟨e1,_⟩:=iH b _ z
      obtain⟨e2,_⟩:=Xk b _ z2
      rw[e] at e1;cases e1
      exact e2
 cases hk:K.lookup a with
 | some o=>
  have e:=KX a o hk
  rw[ha] at e
  cases e
  refine core (fun _=>none) (fun _=>.inl rfl) (.inr ⟨_,vs.toArray,_,hk,rfl,rfl,rfl,by rw[aai,Xj];exact hl,by simpa using rv⟩) (fun b u z=>by have z':(none:Option HO)=some u:=z;cases z') (fun b z=>absurd rfl z) fun z=>absurd rfl z
 | none=>
  refine core (fun b=>if b=a then some (.nq {cls:=.type "list",data:=.seq vs.toArray} (.lst (ns.map V.int))) else none) (fun b=>?_) (.inl (.inr ⟨{cls:=.type "list",data:=.seq vs.toArray},aar rfl⟩)) (fun b u z=>?_) (fun b z=>?_) fun _=>hk
  ·by_cases hb:b=a
   ·exact .inr ⟨_,_,aar hb⟩
   ·exact .inl (aap hb)
  ·by_cases hb:b=a
   ·have z':=(aar hb).symm.trans z
    cases z'
    subst hb
    exact⟨ha,by rw[TU];exact hl,vs,_,rv,ha⟩
   ·have z':=(aap hb).symm.trans z
    cases z'
  ·by_cases hb:b=a
   ·exact hb
   ·exact absurd (aap hb) z
theorem Ma{l:W.OpenLaw}{n k:Nat}{q:Program}{loose:List Str}{XP:(Qqx)→Heap→Prop}{YP:World→Heap→Prop}{d:DefRec}{K:Params→Qqy}{CX:World→GI}{sp:World→Sp}{x:Str}
  (hn:l.most=some n) (Qq:n≤sizeLine) (Tp:d.params.defaults=[]) (hr:kE k callerA)
  (hY:∀(w:World)(h:Heap),YP w h→(K w.params).In h)
  (F:∀(w:World)(mg:Qqx)(fa:Addr)(h:Heap),(K w.params).In h→h.Ns mainGlobals mg→mg d.name=some (.ref fa)→
   ∃fd:FuncData,(∀(s:Shared)(u:Value),BindsTo s fd ⟨[u],[]⟩ [(x,u)])∧
    ∀base:Heap,(K w.params).In base→base.Ns mainGlobals mg→ij l.prog w (K w.params) mg base (CX w) k fa fd [x] (sp w))
  (LH:∀(w:World)(H:Hp)(a:Addr)(ns:List Int),ns.length≤n→O6 H→gH (K w.params) H a (ns.map V.int)→sp w [.ref a] H (fun v _=>v=.bl true) fun _ _ _=>False)
  (Xi:∀(w:World)(H:Hp)(s:Shared)(e:Value)(s':Shared),CX w [] H s (fun _ _ _=>False) e s'→False) :
  W.WalkO q loose XP YP l.row.toRowW d [] (fun f vs=>PySem.call f vs):=by
 refine Z2.Ej hn Tp fun w s₀ s₁ mg mb fa o pm cd doc a vs ns G Y ho hd B5 Tq Qt hints hlen hg=>?_
 have KX:=hY w _ Y
 obtain⟨fd,hb,hF⟩:=F w mg fa _ KX G.T.g Tq
 exact Jz KX G.T.g G.T.b G.T.builtins G.T.nolimit hg Qt hints (XI hlen Qq) hr hF hb (fun H hO hS=>LH w H a ns hlen hO hS) fun H e s'=>Xi w H s₁ e s'
noncomputable def inClass(s:Stmt)(j:Nat):Stmt:=match s with
 | .ClassDef _ _ _ body _ _ _ _ _ _ _=>body.getD j (.Pass ⟨0,0,0,0⟩)
 | _=>.Pass ⟨0,0,0,0⟩
noncomputable def oC(s:Stmt):Arguments:=match s with
 | .FunctionDef _ a _ _ _ _ _ _ _ _=>a
 | _=>{posonlyargs:=[],args:=[],vararg:=none,kwonlyargs:=[],kw_defaults:=[],kwarg:=none,defaults:=[]}
noncomputable def lb(s:Stmt):List Stmt:=match s with
 | .FunctionDef _ _ b _ _ _ _ _ _ _=>b
 | _=>[]
noncomputable def f_(s:Stmt):Scope:=match s with
 | .FunctionDef _ _ _ _ _ _ sc _ _ _=>sc
 | _=>{kind:=.function,names:=[],isGenerator:=false,isCoroutine:=false}
abbrev mr:GI:=fun _ _ _ _ _ _=>False
abbrev E0:XK:=fun _ _ _=>False
theorem nU{X:Cx}:Passes mr X E0:=fun _ _ _ _ _ _ _ h=>h.elim
structure xv(K:Qqy)(x qual:Str)(st:Stmt)(f:Addr)(fd:FuncData):Prop where
 ex:∃(oc:Value)(od:Option Addr)(kV doc pm:Value)(an:Option Addr)(jl ct:Value)(IQ:Array (Option Value)),
  fd=W.fnOf x qual (oC st) (lb st) (f_ st) .none kV doc pm an jl ct∧K.lookup f=some ⟨oc,od,.func fd,IQ⟩∧W.codeIn K jl qual=true
 kp:W.keepIn K (.ref f)=true
section
variable{P:Program}{w:World}{K:Qqy}{mg:Qqx}{base:Heap}
theorem xv.ok{x qual:Str}{st:Stmt}{f:Addr}{fd:FuncData}{N ps:List Str}{k:Nat}{sp:Sp}(F:xv K x qual st f fd)(S:gv N ps (f_ st))(len:∀vs H Q E,sp vs H Q E→vs.length=ps.length)
  (vX:∀(jl:Value)(A:Around)(outer:List Env)(s:Shared)(H:Hp)(vs:List V)(Q:VK)(E:XK),kE k (A.deeper (envOfC qual (f_ st) s.heap.objs.size f jl))→sp vs H Q E→
   ∃t,Fm (wo mr P w K mg base N qual (f_ st) f jl A outer s H E).RW (lb st) t∧t {nx:=fun _ H'=>Q .jm H',rt:=Q} (start N vs) H):ij P w K mg base mr (k+1) f fd ps sp:=by
 obtain⟨oc,od,kV,doc,pm,an,jl,ct,IQ,rfl,lk,B5⟩:=F.ex
 refine ND lk B5 S len fun A outer s H vs Q E hr LH=>?_
 obtain⟨t,h,q⟩:=vX jl A outer s H vs Q E hr LH
 exact⟨t,h.RW,q⟩
theorem xv.binds{x qual:Str}{st:Stmt}{f:Addr}{fd:FuncData}{ps:List Str}(F:xv K x qual st f fd)
  (h:∀(kV doc pm:Value)(an:Option Addr)(jl ct:Value)(us:List Value),us.length=ps.length→bindArgs (W.fnOf x qual (oC st) (lb st) (f_ st) .none kV doc pm an jl ct) ⟨us,[]⟩=pure (ps.zip us)):Binds K fd ps []:=by
 obtain⟨oc,od,kV,doc,pm,an,jl,ct,IQ,rfl,lk,B5⟩:=F.ex
 exact .all (h kV doc pm an jl ct)
theorem JA{x qual:Str}{st:Stmt}{f:Addr}{oc:Value}{od an:Option Addr}{IQ:Array (Option Value)}{kV doc pm jl ct:Value}(l:K.lookup f=some ⟨oc,od,.func (W.fnOf x qual (oC st) (lb st) (f_ st) .none kV doc pm an jl ct),IQ⟩)
 (c:W.codeIn K jl qual=true) (k:W.keepIn K (.ref f)=true):xv K x qual st f (W.fnOf x qual (oC st) (lb st) (f_ st) .none kV doc pm an jl ct):=⟨⟨oc,od,kV,doc,pm,an,jl,ct,IQ,rfl,l,c⟩,k⟩
end
theorem iG{A:Around}{k:Nat}(hr:kE k A):A.units+1<cLine:=abk (Nat.add_le_add_left (by decide:1≤64) _) hr.units
section
variable{X:Cx}
theorem pv(i:Nat){x:Str}{pos:Pos}(hN:X.N[i]?=some x:=by rfl)(hv:V7 X.env.scope x:=by first|exact Or.inl rfl|exact Or.inr (Or.inl rfl)|exact Or.inr (Or.inr rfl))(hd:(x ==("__debug__":Str))=false:=by decide)
 (B5:(x ==("__classdict__":Str))=false:=by decide):PE X (.Name x pos) (RS i):=OH hN hv hd B5
end
theorem i_{A B:Prop}(h:B):if false=true then A else B:=by
 rw[aap aaf]
 exact h
theorem kD{A B:Prop}(h:A):if true=true then A else B:=by
 rw[aar rfl]
 exact h
theorem kF{c A B:Prop}[Decidable c](h1:c→A)(h2:¬c→B):if c then A else B:=by
 by_cases h:c
 ·rw[aar h]
  exact h1 h
 ·rw[aap h]
  exact h2 h
def gj(H H':Hp):Prop:=∀b o,H b=some o→H' b=some o
theorem gj.refl(H:Hp):gj H H:=fun _ _ h=>h
theorem gj.trans{H H1 H2:Hp}(a:gj H H1)(b:gj H1 H2):gj H H2:=fun c o h=>b c o (a c o h)
theorem gj.free{H H':Hp}(e:gj H H'){l:Addr}(h:H' l=Option.none):H l=Option.none:=by
 cases q:H l with
 | none=>rfl
 | some o=>
  rw[e l o q] at h
  cases h
section
variable{κ:Type}[DecidableEq κ]
theorem wq{p:κ×V}{r:List (κ×V)}{k:κ}(e:p.1=k):jV (p::r) k=jV r k:=by
 unfold jV
 rw[acg,aap (by simp[e])]
theorem wu{p:κ×V}{r:List (κ×V)}{k:κ}(e:¬p.1=k):jV (p::r) k=p::jV r k:=by
 unfold jV
 rw[acg,aar (by simp[e])]
end
section
variable{prog:Program}{w:World}{A:Around}{R:Result→Shared→Prop}{s:Shared}
abbrev Mb:Qqq:=fun _ _=>False
theorem Cm{elt target iter:Expr}{ifs:List Expr}{scope:Scope}{pos:Pos}{it acc:Value}{env:Env}(I:Nat→Shared→Prop)
  (turn:∀n s,I n s→wpAny (model prog w) A (pyNext it) (fun r s1=>match r with
   | none=>R (.ok .next) s1
   | some v=>wpAny (model prog w) A (letOwnedTupleGo target it v) (fun _ s1'=>wpAny (model prog w) A (assign target env v) (fun _ s2=>
    wpAny (model prog w) A (forIn ifs true fun c r=>if r=true then do let ok ←isTrue c env (eval c env);pure (ForInStep.yield ok) else pure (ForInStep.yield r)) (fun ok s3=>
     if ok=true then wpAny (model prog w) A (eval elt env) (fun x s4=>wpAny (model prog w) A (call (.builtin "list.append") [acc,x]) (fun _ s5=>∃m,m<n∧I m s5) Mb s4) Mb s3
     else ∃m,m<n∧I m s3) Mb s2) Mb s1') Mb s1) Mb s)
  (n:Nat) (h:I n s):codeAny (model prog w) A (.compLoop (.ListComp elt [⟨target,iter,ifs,0⟩] scope pos) 0 it acc env) R s:=by
 refine codeAny_loop rfl I (fun n s hI=>?_) n h
 show wpAny _ A ((compTurn (.ListComp elt [⟨target,iter,ifs,0⟩] scope pos) 0 it acc env).onRaise (fun x=>do noteFrame x env;theTreesLotGoes x)) _ _ s
 refine wpAny_noted ?_
 rw[compTurn_list]
 refine T1 (wpAny_standAt (T1 (abA (turn n s hI) (fun r s1 h1=>?_) fun _ _ h'=>h'.elim)))
 cases r with
 | none=>exact aag h1
 | some v=>
  refine T1 (abA h1 (fun _ s1' Nb=>?_) fun _ _ h'=>h'.elim)
  refine T1 (abA Nb (fun _ s2 h2=>T1 (abA h2 (fun ok s3 h3=>?_) fun _ _ h'=>h'.elim)) fun _ _ h'=>h'.elim)
  cases ok with
  | false=>exact aag ⟨rfl,h3⟩
  | true=>
   exact T1 (T1 (abA h3 (fun x s4 h4=>T1 (abA h4 (fun _ s5 h5=>aag (aag ⟨rfl,h5⟩)) fun _ _ h'=>h'.elim)) fun _ _ h'=>h'.elim))
end
noncomputable def jx(cells:List (Str×Addr)):List (Str×NameKind)→List (Str×Addr)→List (Str×Addr)
 | [],cs=>cs
 | (n,k)::r,cs=>jx cells r (if k ==.free then(n,(cells.lookup n).getD 0)::cs else cs)
theorem BE{cells:List (Str×Addr)}:∀{names:List (Str×NameKind)} {cs:List (Str×Addr)} {x:Str} {c:Addr},(∀y∈names,y.2=.free→∃c,cells.lookup y.1=some c)→
  (jx cells names cs).lookup x=some c→cs.lookup x=some c∨cells.lookup x=some c
 | [],_,_,_,_,h=>.inl h
 | (n,k)::r,cs,x,c,hf,h=>by
  rcases BE (fun y hy=>hf y (aae _ hy)) (show(jx cells r (if k ==.free then(n,(cells.lookup n).getD 0)::cs else cs)).lookup x=some c from h) with q|q
  ·by_cases hk:(k ==NameKind.free)=true
   ·rw[aar hk] at q
    by_cases hx:(x ==n)=true
    ·rw[ab3,hx] at q
     obtain⟨c',e⟩:=hf (n,k) aal (eq_of_beq hk)
     have e:cells.lookup n=some c':=e
     rw[e] at q
     have q:some c'=some c:=q
     rw[eq_of_beq hx,e,q]
     exact .inr rfl
    ·rw[ab3,abP.mpr hx] at q
     exact .inl q
   ·rw[aap hk] at q
    exact .inl q
  ·exact .inr q
theorem zi{cells:List (Str×Addr)}:∀{names:List (Str×NameKind)} {cs:List (Str×Addr)} {x:Str},(∃c,cs.lookup x=some c)→∃c,(jx cells names cs).lookup x=some c
 | [],_,_,h=>h
 | (n,k)::r,cs,x,h=>by
  refine zi (names:=r) ?_
  by_cases hk:(k ==NameKind.free)=true
  ·rw[aar hk,ab3]
   cases x ==n with
   | true=>exact⟨_,rfl⟩
   | false=>exact h
  ·rw[aap hk];exact h
theorem wx{cells:List (Str×Addr)}:∀{names:List (Str×NameKind)} {cs:List (Str×Addr)} {x:Str},(x,NameKind.free)∈names→∃c,(jx cells names cs).lookup x=some c
 | [],_,_,h=>nomatch h
 | (n,k)::r,cs,x,h=>by
  rcases Z8.mp h with e|h2
  ·cases e
   refine zi (names:=r) ⟨(cells.lookup n).getD 0,?_⟩
   rw[aar (by rfl),ab3,beq_self_eq_true]
  ·exact wx (names:=r) h2
theorem tR{scope:Scope}{env:Env}(hf:∀y∈scope.names,y.2=.free→∃c,env.cells.lookup y.1=some c):closureFor scope env=pure (jx env.cells scope.names []):=by
 have key:∀(names:List (Str×NameKind))(cs:List (Str×Addr)),(∀y∈names,y.2=.free→∃c,env.cells.lookup y.1=some c)→
   (forIn names cs fun(x:Str×NameKind) (r:List (Str×Addr))=>(match x with
    | (name,kind)=>if(kind ==NameKind.free)=true then(do let a ←cellOf env name;pure (ForInStep.yield ((name,a)::r))) else pure (ForInStep.yield r):Sem (ForInStep (List (Str×Addr)))))=(pure (jx env.cells names cs):Sem (List (Str×Addr))):=by
  intro names
  induction names with
  | nil=>intro cs _;rfl
  | cons y r ih=>
   intro cs h
   obtain⟨n,k⟩:=y
   rw[List.forIn_cons]
   by_cases hk:(k ==NameKind.free)=true
   ·obtain⟨c,e⟩:=h (n,k) aal (eq_of_beq hk)
    have e:env.cells.lookup n=some c:=e
    have ec:cellOf env n=pure c:=by unfold cellOf;rw[e]
    simp only [hk,if_true,ec,pure_bind]
    rw[ih _ fun y hy=>h y (aae _ hy)]
    simp only [jx,hk,if_true,e,Option.getD_some]
   ·simp only [hk,abS,pure_bind,aaV]
    rw[ih _ fun y hy=>h y (aae _ hy)]
    simp only [jx,hk,abS,aaV]
 have q:=key scope.names [] hf
 simp only [closureFor]
 first
  | (rw[q];rfl)
  | (simp only [q,pure_bind])
  | exact(aa6 (fun t=>t >>= pure) q).trans (pure_bind _ _)
theorem qX{f:Str→NameKind→NameKind}:∀{names:List (Str×NameKind)} {x:Str},(names.map fun y=>(y.1,f y.1 y.2)).lookup x=(names.lookup x).map (f x)
 | [],_=>rfl
 | (n,k)::r,x=>by
  show List.lookup x ((n,f n k)::_)=_
  rw[ab3,ab3]
  cases h:x ==n with
  | true=>rw[eq_of_beq h];rfl
  | false=>exact qX (names:=r)
theorem lE{scope:Scope}{env:Env}{x:Str}:(relabel scope env).names.lookup x=(scope.names.lookup x).map fun k=>if(k ==.free&&env.scope.kind ==.function&&env.kindOf x ==some .cell)=true then .cell else k:=by
 have e:(relabel scope env).names=scope.names.map fun y=>(y.1,(fun(n:Str) (k:NameKind)=>if(k ==.free&&env.scope.kind ==.function&&env.kindOf n ==some .cell)=true then NameKind.cell else k) y.1 y.2):=by
  show(scope.names.map _)=_
  refine ab1 fun y _=>?_
  obtain⟨n,k⟩:=y
  show(if(k ==.free&&env.scope.kind ==.function&&env.kindOf n ==some .cell)=true then(n,NameKind.cell) else(n,k))=(n,if(k ==.free&&env.scope.kind ==.function&&env.kindOf n ==some .cell)=true then NameKind.cell else k)
  split<;>rfl
 rw[e]
 exact qX (f:=fun(n:Str) (k:NameKind)=>if(k ==.free&&env.scope.kind ==.function&&env.kindOf n ==some .cell)=true then NameKind.cell else k)
noncomputable def blank:List Nat→St→St
 | [],σ=>σ
 | i::r,σ=>blank r (σ.set i none)
theorem BF:∀{is:List Nat} {σ:St},(blank is σ).length=σ.length
 | [],_=>rfl
 | i::r,σ=>by
  show(blank r (σ.set i none)).length=_
  rw[BF,acn]
theorem Cn{σ:St}{i j:Nat}{v:V}(h:(σ.set i none)[j]?=some (some v)):σ[j]?=some (some v)∧j≠i:=by
 by_cases e:j=i
 ·subst e
  by_cases hl:j<σ.length
  ·rw[abb hl] at h;cases h
  ·rw[List.getElem?_eq_none_iff.mpr (by rw[acn];omega)] at h;cases h
 ·rw[abi (abK e)] at h
  exact⟨h,e⟩
theorem BG:∀{is:List Nat} {σ:St} {j:Nat} {v:V},(blank is σ)[j]?=some (some v)→σ[j]?=some (some v)∧j∉is
 | [],_,_,_,h=>⟨h,by simp⟩
 | i::r,σ,j,v,h=>by
  obtain⟨h1,h2⟩:=BG (is:=r) (σ:=σ.set i none) h
  obtain⟨h3,h4⟩:=Cn h1
  exact⟨h3,fun m=>(Z8.mp m).elim h4 h2⟩
noncomputable def HB(N:List Str)(out:List (Str×NameKind))(is:List Nat)(names:List (Str×NameKind)):Bool:=
 (names.all fun y=>y.2 != .cell&&(y.2 != .free||out.lookup y.1 ==some .cell||out.lookup y.1 ==some .free)&&(y.2 != .local||names.lookup y.1 ==some .local))&&
 (N.zipIdx.all fun p=>names.lookup p.1 != some .local||is.contains p.2)
structure Co(N:List Str)(out:List (Str×NameKind))(is:List Nat)(names:List (Str×NameKind)):Prop where
 FG:∀y∈names,y.2≠.cell
 free:∀y∈names,y.2=.free→out.lookup y.1=some .cell∨out.lookup y.1=some .free
 loc:∀y∈names,y.2=.local→names.lookup y.1=some .local
 own:∀(i:Nat)(x:Str),N[i]?=some x→names.lookup x=some .local→i∈is
theorem Co.of{N:List Str}{out:List (Str×NameKind)}{is:List Nat}{names:List (Str×NameKind)}(h:HB N out is names=true):Co N out is names:=by
 unfold HB at h
 rw[abf] at h
 obtain⟨h1,h2⟩:=h
 have a:=abL.mp h1
 have b:=abL.mp h2
 refine⟨fun y hy e=>?_,fun y hy e=>?_,fun y hy e=>?_,fun i x hi e=>?_⟩
 ·have q:=a y hy
  rw[e] at q
  simp at q
 ·have q:=a y hy
  simp only [e,abf,aco,bne_self_eq_false,aaV,false_or,ab5] at q
  rcases q.1.2 with z|z
  ·exact .inl z
  ·exact .inr z
 ·have q:=a y hy
  simp only [e,abf,aco,bne_self_eq_false,aaV,false_or,ab5] at q
  exact q.2
 ·have hm:(x,i)∈N.zipIdx:=by
   rw[aaC]
   exact⟨i,by rw[List.getElem?_zipIdx,hi];simp⟩
  have q:=b (x,i) hm
  simp only [e,aco,bne_self_eq_false,aaV,false_or] at q
  exact List.contains_iff_mem.mp q
noncomputable def Cx.block(X:Cx)(scope:Scope)(cl:List (Str×Addr))(C:Addr)(s:Shared)(H:Hp)(ex:List Addr):Cx:=
 {X with env:=compEnvC scope cl C X.env,s₀:=s,H₀:=H,outer:=X.stack,ex:=ex,fn:=fun _=>false,pn:=[],xe:=Mb}
section
variable{X:Cx}{c_:Qqz}{σ:St}{H:Hp}{s:Shared}{scope:Scope}{is:List Nat}{ex:List Addr}{C:Addr}
theorem zj(I:Inv X c_ σ H s)(hs:Co X.N X.env.scope.names is scope.names):∀y∈scope.names,y.2=.free→∃c,X.env.cells.lookup y.1=some c:=fun y hy e=>I.ok.has y.1 (hs.free y hy e)
theorem mD(I:Inv X c_ σ H s)(hs:Co X.N X.env.scope.names is scope.names){x:Str}{c:Addr}(h:(jx X.env.cells scope.names []).lookup x=some c):X.env.cells.lookup x=some c:=
 (BE (zj I hs) h).resolve_left fun z=>nomatch z
theorem JB(I:Inv X c_ σ H s)(hs:Co X.N X.env.scope.names is scope.names)(hk:scope.kind=.function)(hC:s.heap.objs.size≤C)(hf:∀b∈ex,ug X c_ H b)(ho:∀b∈ex,∃o,s.heap.get? b=some o) :
  (X.block scope (jx X.env.cells scope.names []) C s H ex).Ok where
 mod:=I.ok.mod
 kind:=hk
 glob:=I.ok.glob
 blt:=I.ok.blt
 above:=hC
 inj:=fun x y c h1 h2=>I.ok.inj x y c (mD I hs h1) (mD I hs h2)
 has:=fun x hx=>by
  have hx:(relabel scope X.env).names.lookup x=some .cell∨(relabel scope X.env).names.lookup x=some .free:=hx
  rw[lE] at hx
  cases e:scope.names.lookup x with
  | none=>
   rw[e] at hx
   rcases hx with z|z<;>cases z
  | some k=>
   have hm:(x,k)∈scope.names:=abC e
   have hk:k=.free:=by
    rw[e] at hx
    cases k with
    | free=>rfl
    | cell=>exact absurd rfl (hs.FG _ hm)
    | _=>rcases hx with z|z<;>simp at z
   subst hk
   exact wx hm
 Q5:=fun _ _ h=>Bool.noConfusion h
 hd:=I.ok.hd
 frames:=I.ok.frames
 RO:=.inl rfl
 V8:=fun b hb=>by
  obtain⟨o,e⟩:=ho b hb
  exact⟨aaU (aaD (aau e) hC),fun x c h=>(hf b hb).2.2.2.2.1 x c (mD I hs h)⟩
 bs:=I.bs
 LV:=XI I.ok.LV I.sz
 tI:=fun b o e hb=>by
  rcases(hf b hb).2.2.2.1 with z|z
  ·exact I.ok.tI b o e z
  ·exact absurd (aaD (aau (I.ok.bs b o e).1) z) (abg _)
 Ja:=fun b hb hm=>by
  rcases Z8.mp (I.wg b hm) with z|z
  ·exact(hf b hb).2.1 z
  ·exact(hf b hb).2.2.1 z
 uQ:=I.stack
 Ny:=I.Ca
theorem HC{h':Heap}{t':Nat}{pl:Qqz}(I:Inv X c_ σ H s)(hs:Co X.N X.env.scope.names is scope.names)(hk:scope.kind=.function)(hC:s.heap.objs.size≤C)(hf:∀b∈ex,ug X c_ H b)(ho:∀b∈ex,∃o,s.heap.get? b=some o)
  (old:∀b o,s.heap.get? b=some o→h'.get? b=some o) {m:Qqx} (hn:h'.Ns C m)
  (hp:∀p∈pl,h'.get? p.1=some p.2∧s.heap.objs.size≤p.1∧p.1≠C∧∀v,p.2.data≠.cell v) :
  Inv (X.block scope (jx X.env.cells scope.names []) C s H ex) pl (blank is σ) H {s with heap:=h',toks:=t'} where
 ok:=JB I hs hk hC hf ho
 os:=rfl
 bare:=I.bare
 base:=Un.kept old
 loc:=⟨m,hn,fun i x v h1 h2 h3=>by
  have h3:(relabel scope X.env).names.lookup x=some .local∨(relabel scope X.env).names.lookup x=some .cell∨(relabel scope X.env).names.lookup x=some .free:=h3
  obtain⟨h2,hi⟩:=BG h2
  have h1:X.N[i]?=some x:=h1
  cases e:scope.names.lookup x with
  | none=>
   rw[lE,e] at h3
   rcases h3 with z|z|z<;>cases z
  | some k=>
   have hm:(x,k)∈scope.names:=abC e
   have hk:k=.free:=by
    rw[lE,e] at h3
    cases k with
    | free=>rfl
    | cell=>exact absurd rfl (hs.FG _ hm)
    | «local»=>exact absurd (hs.own i x h1 e) hi
    | _=>rcases h3 with z|z|z<;>simp at z
   subst hk
   have hv:X.env.scope.names.lookup x=some .cell∨X.env.scope.names.lookup x=some .free:=hs.free _ hm rfl
   obtain⟨m0,_,hl⟩:=I.loc
   obtain⟨u,r,q⟩:=hl i x v h1 h2 (.inr hv)
   refine⟨u,r,.inr ⟨?_,?_⟩⟩
   ·show(relabel scope X.env).names.lookup x=some .cell∨(relabel scope X.env).names.lookup x=some .free
    rw[lE,e]
    show some (if _ then NameKind.cell else NameKind.free)=_∨some (if _ then NameKind.cell else NameKind.free)=_
    split
    ·exact .inl rfl
    ·exact .inr rfl
   ·rcases q with⟨z,_⟩|⟨_,c,ec,cc⟩
    ·have z:X.env.scope.names.lookup x=some .local:=z
     rcases hv with hv|hv<;>rw[hv] at z<;>cases z
    ·obtain⟨c',e'⟩:=wx (cells:=X.env.cells) (cs:=[]) hm
     have e2:=mD I hs e'
     rw[ec] at e2
     cases e2
     obtain⟨o,ho,hd⟩:=cc
     exact⟨c,e',o,old _ _ ho,hd⟩⟩
 cell:=fun x c h=>by
  obtain⟨v,o,ho,hd⟩:=I.cell x c (mD I hs h)
  exact⟨v,o,old _ _ ho,hd⟩
 free:=I.iH.fresh hC
 pH:=fun x c h=>I.pH x c (mD I hs h)
 pin:=fun p hp'=>by
  obtain⟨h1,h2,h3,h4⟩:=hp p (by simpa[Cx.block] using hp')
  refine⟨h1,I.iH.fresh h2,h3,fun hm=>?_,h4⟩
  rcases Z8.mp (I.wg p.1 hm) with z|z
  ·exact absurd (aaD I.lt (by rw[←z];exact h2)) (abg _)
  ·exact I.RP h2 z
 iH:=I.iH.kept old
 len:=by rw[BF];exact I.len
end
theorem ku{X:Cx}{scope:Scope}{cl:List (Str×Addr)}{C:Addr}{s:Shared}{H:Hp}{ex:List Addr}:(X.block scope cl C s H ex).K=X.K:=rfl
theorem PE.eqv{X:Cx}{e:Expr}{t t':TE}(h:PE X e t')(q:t'=t):PE X e t:=q▸h
def O7(X:Cx)(ifs:List Expr)(t:TT):Prop:=
 ∀(c_:Qqz)(s:Shared)(σ:St)(H:Hp)(Q:Bool→Hp→Prop),Inv X c_ σ H s→t σ H Q→
  wpAny (model X.prog X.w) X.A (forIn ifs true fun c r=>if r=true then do let ok ←isTrue c X.env (eval c X.env);pure (ForInStep.yield ok) else pure (ForInStep.yield r)) (TP X c_ σ Q) X.xe s
def WC:TT:=fun _ H Q=>Q true H
theorem nV{X:Cx}:O7 X [] WC:=fun _ _ _ H _ I h=>wpAny_tests_nil ⟨H,I,h⟩
theorem mL{X:Cx}{c:Expr}{t:TT}(h:PT X c t):O7 X [c] t:=fun c_ s σ H Q I hw=>wpAny_tests_one (h c_ s σ H Q I hw)
def HD(g:TG)(tt:TT)(te:TE)(J:It)(Q:List V→Hp→Prop)(σ:St)(H:Hp):Prop:=
 ∃W:Nat→Nat→List V→St→Hp→Prop,(∃m,W 0 m [] σ H)∧∀i m ys σ H,W i m ys σ H→
  (J.stop i H∧ys.length≤sizeLine∧Q ys H)∨
  (J.go i H∧ys.length≤sizeLine∧∃N:List V→St→Hp→Prop,(∀Rl σ' H',N Rl σ' H'→∃m',m'<m∧W (i+1) m' Rl σ' H')∧
   ∀x H',J.Jg i H x H'→g x σ H' fun σ2 H2=>tt σ2 H2 fun b H3=>if b=true then te σ2 H3 fun v H4=>N (ys++[v]) σ2 H4 else N ys σ2 H3)
def U9(is:List Nat)(wi:TI)(g:TG)(tt:TT)(te:TE):TE:=fun σ H Q=>wi σ H fun J H1=>HD g tt te J (fun ys H2=>∀p,H2 p=none→Q (.ref p) (upd H2 p (.lst ys))) (blank is σ) H1
section
variable{P:Program}{w:World}
theorem rC.Si{H:Hp}{h:Heap}{a:Addr}{o:HO}(x:rC P w H h)(hn:H a=none)(new:iY P w (upd H a o) h a o):rC P w (upd H a o) h:=fun b u q=>by
 by_cases hb:b=a
 ·subst hb;rw[b_] at q;cases q;exact new
 ·rw[e_ hb] at q
  exact(x b u q).yY (fun _ _ _ r=>r) (fun c r=>by rw[e_ (gh r hn)];exact r) fun c xs r=>by rw[e_ (gh r hn)];exact r
end
noncomputable abbrev Cq(ys:List Value)(n:Nat):Obj:={cls:=.type "list",data:=.seq ys.toArray n}
section
variable{X:Cx}{c_:Qqz}{σ:St}{H:Hp}{s:Shared}{scope:Scope}{is:List Nat}
theorem BH{E:Qqq}{elt tg iter:Expr}{ifs:List Expr}{pos:Pos}{it:Addr}{fp:List Addr}{tn:Nat→Heap→Prop}{J:It}{g:TG}{tt:TT}{te:TE}{Fin:List V→Hp→Prop}{RR:Value→Addr→Result→Shared→Prop}
  (I:Inv X c_ σ H s) (hc:X.calm=true) (hs:Co X.N X.env.scope.names is scope.names) (hk:scope.kind=.function)
  (hg:∀C s H ex,PG (X.block scope (jx X.env.cells scope.names []) C s H ex) tg g) (ht:∀C s H ex,O7 (X.block scope (jx X.env.cells scope.names []) C s H ex) ifs tt)
  (he:∀C s H ex,PE (X.block scope (jx X.env.cells scope.names []) C s H ex) elt te)
  (T:Turn X.prog X.w X.K tg J fp it tn) (st:tn 0 s.heap) (hf:∀b∈fp,ug X c_ H b) (h:HD g tt te J Fin (blank is σ) H)
  (hRR:∀(D C:Addr)(ys:List V)(h_:List Value)(n:Nat)(H':Hp)(s':Shared)(m:Qqx),s.heap.objs.size≤D→s.heap.objs.size≤C→D≠C→s'.heap.Ns C m→s'.heap.get? D=some (Cq h_ n)→Vals ys h_→ys.length≤sizeLine→
   H' D=none→H' C=none→s'.os=s.os→AllBare s'.gens→Un (ue X.stack) fp H H' s.heap s'.heap→rC X.prog X.w H' s'.heap→Fin ys H'→RR (.ref D) C (.ok .next) s') :
  wpAny (model X.prog X.w) X.A (newList []) (fun acc s3=>wpAny (model X.prog X.w) X.A (newFunctionEnv scope X.env.globals (jx X.env.cells scope.names []) [] X.env.qual none .none (some X.env)) (fun Ts s4=>
   codeAny (model X.prog X.w) X.A (.compStart (.ListComp elt [⟨tg,iter,ifs,0⟩] scope pos) 0 (.ref it) acc {Ts with scope:=relabel scope X.env}) (RR acc Ts.locals) s4) E s3) E s:=by
 refine wpAny_newObj_type (wpAny_newFunctionEnv hs.FG (by intro y hy;simp at hy) (fun h1 Qu Nc=>?_) hk)
 dsimp only at Qu Nc ⊢
 generalize Xl:s.heap.push {cls:=.type "list",dict:=none,data:=.seq ([]:List Value).toArray}=H2 at Qu Nc ⊢
 have hC:H2.objs.size=s.heap.objs.size+1:=by rw[←Xl,Heap.size_push]
 have Nd:s.heap.objs.size≠H2.objs.size:=by rw[hC];exact aaU (ab2 _)
 have Tt:s.heap.objs.size≤H2.objs.size:=by rw[hC];exact Nat.le_succ _
 have below:∀b,b<s.heap.objs.size→b≠H2.objs.size∧b≠s.heap.objs.size:=fun b hb=>⟨by rw[hC];exact aaU (Nat.lt_succ_of_lt hb),aaU hb⟩
 have old:∀b o,s.heap.get? b=some o→h1.get? b=some o:=fun b o e=>Nc.extBut b o (below b (aau e)).1 (aab _ (Xl▸aab _ e))
 have vY:h1.get? s.heap.objs.size=some (Cq [] 0):=Nc.extBut _ _ Nd (aab _ (Xl▸aav _ rfl))
 have Xm:∀b∈fp,∃o,s.heap.get? b=some o:=fun b hb=>let ⟨o,e,_⟩:=T.obj 0 _ st b hb;⟨o,e⟩
 have hfD:∀b∈fp,b≠s.heap.objs.size:=fun b hb=>let ⟨o,e⟩:=Xm b hb;(below b (aau e)).2
 have hfC:∀b∈fp,b≠H2.objs.size:=fun b hb=>let ⟨o,e⟩:=Xm b hb;(below b (aau e)).1
 generalize hD:s.heap.objs.size=D at *
 generalize hCC:H2.objs.size=C at *
 have Tu:∀x c,(jx X.env.cells scope.names []).lookup x=some c→c≠D:=fun x c e z=>by
  obtain⟨v,q⟩:=I.cell x c (mD I hs e)
  exact absurd q.lt (by rw[z,hD];exact abg _)
 let XB:=X.block scope (jx X.env.cells scope.names []) C s H fp
 have I1:Inv XB [(D,Cq [] 0)] (blank is σ) H {s with heap:=h1,toks:=s.toks+([]:List (Str×Value)).length}:=
  HC I hs hk (by rw[hD];exact Tt) hf Xm old Qu fun p hp=>by
   rw[WG.mp hp]
   exact⟨vY,Nat.le_of_eq hD,Nd,fun v z=>nomatch z⟩
 have Xn:∀{pl:Qqz} {H':Hp},(∀p∈pl,p.1=D)→(∀b∈fp,H' b=none)→∀b∈fp,ug XB pl H' b:=fun{pl H'} qi hn b hb=>
  ⟨hn b hb,hfC b hb,fun hm=>by
   rcases Z8.mp (I.wg b hm) with z|z
   ·exact(hf b hb).2.1 z
   ·exact(hf b hb).2.2.1 z,.inl hb,fun x c e=>(hf b hb).2.2.2.2.1 x c (mD I hs e),fun p hp=>by
   have hp:p∈pl:=by simpa[XB,Cx.block] using hp
   rw[qi p hp]
   exact abK (hfD b hb)⟩
 obtain⟨W,⟨m0,w0⟩,turn⟩:=h
 have IG:tn 0 h1:=T.keep _ _ _ st fun b _ o e=>old b o e
 have loop:codeAny (model X.prog X.w) X.A (.compLoop (.ListComp elt [⟨tg,iter,ifs,0⟩] scope pos) 0 (.ref it) (.ref D) (compEnvC scope (jx X.env.cells scope.names []) C X.env)) (RR (.ref D) C) {s with heap:=h1,toks:=s.toks+([]:List (Str×Value)).length}:=by
  refine Cm (fun k s'=>∃i ys h_ n σ' H',Inv XB [(D,Cq h_ n)] σ' H' s'∧Vals ys h_∧tn i s'.heap∧(∀b∈fp,H' b=none)∧W i k ys σ' H') ?_ m0 ⟨0,[],[],0,_,_,I1,.nil,IG,fun b hb=>(hf b hb).1,w0⟩
  rintro k s3 ⟨i,ys,h_,n,σ3,H3,I3,vs,uh,Th,w3⟩
  have qi:∀p∈[(D,Cq h_ n)],p.1=D:=fun p hp=>by rw[WG.mp hp]
  rcases turn i k ys σ3 H3 w3 with⟨stop,hz,qn⟩|⟨go,hz,N,hN,step⟩
  ·refine i6 (T.done XB rfl rfl rfl hc i _ s3 σ3 H3 Mb I3 (Xn qi Th) uh stop) fun r s4 iF=>?_
   obtain⟨hr,I4⟩:=iF
   subst hr
   obtain⟨m',Ri,_⟩:=I4.loc
   have pD:=I4.pin (D,Cq h_ n) (by simp[XB,Cx.block])
   exact hRR D C ys h_ n H3 s4 m' (WL _) Tt Nd Ri pD.1 vs hz pD.2.1 I4.free I4.os I4.bare I4.base I4.iH qn
  ·refine i6 (T.item XB rfl rfl rfl hc i _ s3 σ3 H3 Mb I3 (Xn qi Th) uh go) fun r s4 iF=>?_
   obtain⟨u,hr,h4⟩:=iF
   subst hr
   refine i6 h4 fun _ s5 iF=>?_
   obtain⟨x,H5,I5,r5,y5,Qo,W_⟩:=iF
   have Xa:=I5.pinned (Xn qi W_) (T.obj _ _ Qo)
   refine i6 (hg C s H fp _ s5 σ3 H5 x u _ Xa r5 (step x H5 y5)) fun _ s6 iF=>?_
   obtain⟨σ6,H6,I6,q6⟩:=iF
   have B6:∀{σ7:St} {H7:Hp} {s7:Shared},Inv XB ([(D,Cq h_ n)]++y8 fp s5.heap) σ7 H7 s7→tn (i+1) s7.heap∧∀b∈fp,H7 b=none:=fun{σ7 H7 s7} I7=>
    ⟨T.keep _ _ _ Qo fun b hb o e=>(I7.pin (b,o) (aaL _ (aaL _ (qk hb e)))).1,fun b hb=>by
     obtain⟨o,e,d⟩:=T.obj _ _ Qo b hb
     exact(I7.pin (b,o) (aaL _ (aaL _ (qk hb e)))).2.1⟩
   refine i6 (ht C s H fp _ s6 σ6 H6 _ I6 q6) fun ok s7 iF=>?_
   obtain⟨H7,I7,q7⟩:=iF
   cases ok with
   | false=>
    rw[aap aaf] at q7 ⊢
    obtain⟨m',hm,w7⟩:=hN _ _ _ q7
    exact⟨m',hm,i+1,ys,h_,n,σ6,H7,I7.uT,vs,(B6 I7).1,(B6 I7).2,w7⟩
   | true=>
    rw[aar rfl] at q7 ⊢
    refine i6 (he C s H fp _ s7 σ6 H7 _ I7 q7) fun y s8 iF=>?_
    obtain⟨v,H8,I8,r8,n8⟩:=iF
    obtain⟨m',hm,w8⟩:=hN _ _ _ n8
    obtain⟨st8,fr8⟩:=B6 I8
    have pD:=I8.pin (D,Cq h_ n) (by simp)
    have hl:=vs.length
    refine append_at (hsz:=by show h_.toArray.size≤sizeLine;rw[aai,←hl];exact hz) pD.1 fun h9 sb9 e9=>?_
    have I9:Inv XB [] σ6 H8 {s8 with heap:=h9}:=by
     have J8:Inv XB [] σ6 H8 s8:=I8.yL fun p hp=>nomatch hp
     exact J8.turned (t':=s8.toks) (it:=D) (fun b o hb e=>sb9.extBut b o hb e) pD.2.1 Nd (.inr (Nat.le_of_eq hD)) (fun x c e=>Tu x c e) fun p hp=>by simp[XB,Cx.block] at hp
    refine⟨m',hm,i+1,ys++[v],h_++[y],n+1,σ6,H8,I9.yL fun p hp=>?_,vs.append (.cons r8 .nil),T.keep _ _ _ st8 fun b hb o e=>sb9.extBut b o (hfD b hb) e,fr8,w8⟩
    rw[WG.mp hp]
    refine⟨?_,pD.2.1,Nd,fun hm=>?_,fun v z=>nomatch z⟩
    ·rw[e9]
     show some _=some _
     rw[List.push_toArray]
    ·exact pD.2.2.2.1 hm
 exact codeAny_compStart_list loop (T.self _ 0 _ _ _ IG loop)
variable{elt tg iter:Expr}{ifs:List Expr}{pos K7 py:Pos}{wi:TI}{g:TG}{tt:TT}{te:TE}
theorem xw{D:Addr}{ys:List V}{h_:List Value}{n:Nat}{H':Hp}{s':Shared}{fp:List Addr}(I:Inv X c_ σ H s)(hf:∀b∈fp,ug X c_ H b)(hD:s.heap.objs.size≤D)(e:s'.heap.get? D=some (Cq h_ n))(vs:Vals ys h_)(hz:ys.length≤sizeLine)
  (nD:H' D=none) (os:s'.os=s.os) (bare:AllBare s'.gens) (un:Un (ue X.stack) fp H H' s.heap s'.heap) (iH:rC X.prog X.w H' s'.heap):Inv X c_ σ (upd H' D (.lst ys)) s':=by
 have neD:∀b o,s.heap.get? b=some o→b≠D:=fun b o q=>aaU (aaD (aau q) hD)
 refine I.RQ (ch:=fp) os ⟨un.keep,un.slot,fun b o q nn hx=>by rw[e_ (neD b o q)];exact un.free b o q nn hx,un.there,fun b xs q=>?_,fun b o u q=>?_,fun b ps q=>?_⟩ (iH.Si nD ⟨hz,h_,n,vs,e⟩) bare fun b hb=>?_
 ·have q':=un.rD b xs q
  rw[e_ (gh q' nD)];exact q'
 ·have q':=un.uP b o u q
  rw[e_ (gh q' nD)];exact q'
 ·obtain⟨more,q'⟩:=un.yt b ps q
  exact⟨more,by rw[e_ (gh q' nD)];exact q'⟩
 ·obtain⟨f0,f1,f2,f3,f4,f5⟩:=hf b hb
  exact⟨f3,f1,f4,f5⟩
theorem zl{C:Addr}{h':Heap}{s0:Shared}(I:Inv X c_ σ H s)(hC:s0.heap.objs.size≤C)(nC:H C=none)(Tv:Heap.SameBut C s.heap h')(I0:∃σ0 H0,Inv X c_ σ0 H0 s0):Inv X c_ σ H {s with heap:=h'}:=by
 obtain⟨σ0,H0,I0⟩:=I0
 obtain⟨_,f1,_,f3,f4,f5⟩:=I0.y6 (H':=fun _=>none) hC rfl
 exact I.turned (t':=s.toks) (fun b o hb e=>Tv.extBut b o hb e) nC f1 f3 f4 f5
theorem xx(N:List Str)(out:List (Str×NameKind))(is:List Nat)(hc:X.calm=true)(hi:PI X tg iter wi)(hk:scope.kind=.function)(hs:HB N out is scope.names=true)
  (hg:∀C s H ex,PG (X.block scope (jx X.env.cells scope.names []) C s H ex) tg g) (ht:∀C s H ex,O7 (X.block scope (jx X.env.cells scope.names []) C s H ex) ifs tt)
  (he:∀C s H ex,∃t,PE (X.block scope (jx X.env.cells scope.names []) C s H ex) elt t∧t=te) (Aw:∀x,foldedSetIterable iter X.env x=pure x:=by intro _;rfl) (eN:X.N=N:=by rfl) (eo:X.env.scope.names=out:=by rfl) :
  PE X (.ListComp elt [⟨tg,iter,ifs,0⟩] scope pos) (U9 is wi g tt te):=by
 intro c_ s σ H Q I h
 subst eN eo
 have S:=Co.of hs
 rw[eval_ListComp]
 refine wpAny_comprehension_free (use:=none) rfl Aw (tR (zj I S)) hk S.loc (i6 (hi c_ s σ H _ I h) fun v s1 h1=>i6 h1 fun Vf s2 h2=>?_)
 obtain⟨it,fp,tn,J,H2,rfl,I2,T,Bo,f2,h2⟩:=h2
 refine BH (RR:=fun acc C=>compPost (model X.prog X.w) X.A X.xe none (EP X c_ σ Q) acc C) I2 hc S hk hg ht (fun C s H ex=>let ⟨_,h,e⟩:=he C s H ex;PE.eqv h e) T Bo f2 h2 ?_
 intro D C ys h_ n H' s' m hD hC Nd hn e vs hz nD nC os bare un iH q
 have J1:Inv X c_ σ (upd H' D (.lst ys)) s':=xw I2 f2 hD e vs hz nD os bare un iH
 refine⟨m,hn,fun h' Tv=>⟨.ref D,_,zl J1 hC (by rw[e_ (abK Nd)];exact nC) Tv ⟨_,_,I2⟩,rfl,q D nD⟩⟩
theorem Ek{y:Str}{j:Nat}(N:List Str)(out:List (Str×NameKind))(is:List Nat)(hN:X.N.Nodup)(hj:X.N[j]?=some y)(hy:X.env.scope.names.lookup y=some .local)(hc:X.calm=true)(hi:PI X tg iter wi)(hk:scope.kind=.function)(hs:HB N out is scope.names=true)
  (hg:∀C s H ex,PG (X.block scope (jx X.env.cells scope.names []) C s H ex) tg g) (ht:∀C s H ex,O7 (X.block scope (jx X.env.cells scope.names []) C s H ex) ifs tt)
  (he:∀C s H ex,∃t,PE (X.block scope (jx X.env.cells scope.names []) C s H ex) elt t∧t=te)
  (Xo:swapsWith (.ListComp elt [⟨tg,iter,ifs,0⟩] scope pos) (some (.Name y py)) K7.line X.env=pure true:=by rfl) (Aw:∀x,foldedSetIterable iter X.env x=pure x:=by intro _;rfl) (eN:X.N=N:=by rfl) (eo:X.env.scope.names=out:=by rfl) :
  PS X (.Assign [.Name y py] (.ListComp elt [⟨tg,iter,ifs,0⟩] scope pos) K7) (Jf (U9 is wi g tt te) (mB j)):=by
 intro c_ s σ H Dn I h
 subst eN eo
 have S:=Co.of hs
 rw[exec_Assign_Name_used _ _ _ _ Xo]
 refine T1 (wpAny_standAt (T1 ?_))
 show wpAny _ _ (do let _ ←comprehension (.ListComp elt [⟨tg,iter,ifs,0⟩] scope pos) scope X.env _ (newList []) false (eval iter X.env) (some (assign (.Name y py) X.env))) _ _ s
 refine T1 (abA (wpAny_comprehension_free (use:=some (assign (.Name y py) X.env)) (Q:=fun _ s'=>SP X c_ Dn .next s') rfl Aw (tR (zj I S)) hk S.loc
  (i6 (hi c_ s σ H _ I h) fun v s1 h1=>i6 h1 fun Vf s2 h2=>?_)) (fun _ s' hq=>aag (aag hq)) fun _ _ e=>e)
 obtain⟨it,fp,tn,J,H2,rfl,I2,T,Bo,f2,h2⟩:=h2
 refine BH (RR:=fun acc C=>compPost (model X.prog X.w) X.A X.xe (some (assign (.Name y py) X.env)) (fun _ s'=>SP X c_ Dn .next s') acc C) I2 hc S hk hg ht (fun C s H ex=>let ⟨_,h,e⟩:=he C s H ex;PE.eqv h e) T Bo f2 h2 ?_
 intro D C ys h_ n H' s' m hD hC Nd hn e vs hz nD nC os bare un iH q
 have J1:Inv X c_ σ (upd H' D (.lst ys)) s':=xw I2 f2 hD e vs hz nD os bare un iH
 show wpAny _ _ (assign (.Name y py) X.env (.ref D)) _ _ _
 refine wpAny_assign_Name (Bu J1 hN hj (.inl hy) (v:=.ref D) rfl (fun s5 J5 iF=>?_) (.inr hy))
 obtain⟨a,sb,ha⟩:=iF
 have hCa:C≠a:=by
  obtain⟨_,f1,_,f3,f4,f5⟩:=I2.y6 (H':=fun _=>none) hC rfl
  rcases ha with z|z
  ·rw[z];exact f1
  ·exact fun q=>f4 _ _ z q.symm
 exact⟨m,hn.sameBut sb hCa,fun h' Tv=>⟨_,_,zl J5 hC (by rw[e_ (abK Nd)];exact nC) Tv ⟨_,_,I2⟩,q D nD⟩⟩
end
section
variable{X:Cx}{elt tg iter:Expr}{ifs:List Expr}{scope:Scope}{pos:Pos}{wi:TI}{g:TG}{tt:TT}{te:TE}{py K7:Pos}
theorem zm(N:List Str)(out:List (Str×NameKind))(is:List Nat)(hc:X.calm=true)(hi:PI X tg iter wi)(hk:scope.kind=.function)(hs:HB N out is scope.names=true)
 (hg:∀C s H ex,PG (X.block scope (jx X.env.cells scope.names []) C s H ex) tg g) (ht:∀C s H ex,∃t,O7 (X.block scope (jx X.env.cells scope.names []) C s H ex) ifs t∧t=tt)
 (he:∀C s H ex,∃t,PE (X.block scope (jx X.env.cells scope.names []) C s H ex) elt t∧t=te) (Aw:∀x,foldedSetIterable iter X.env x=pure x:=by intro _;rfl) (eN:X.N=N:=by rfl) (eo:X.env.scope.names=out:=by rfl) :
 PE X (.ListComp elt [⟨tg,iter,ifs,0⟩] scope pos) (U9 is wi g tt te):=xx N out is hc hi hk hs hg (fun C s H ex=>let ⟨_,h,e⟩:=ht C s H ex;e▸h) he Aw eN eo
theorem uk{y:Str}{j:Nat}(N:List Str)(out:List (Str×NameKind))(is:List Nat)(hN:X.N.Nodup)(hj:X.N[j]?=some y)(hy:X.env.scope.names.lookup y=some .local)(hc:X.calm=true)(hi:PI X tg iter wi)(hk:scope.kind=.function)(hs:HB N out is scope.names=true)
 (hg:∀C s H ex,PG (X.block scope (jx X.env.cells scope.names []) C s H ex) tg g) (ht:∀C s H ex,∃t,O7 (X.block scope (jx X.env.cells scope.names []) C s H ex) ifs t∧t=tt)
 (he:∀C s H ex,∃t,PE (X.block scope (jx X.env.cells scope.names []) C s H ex) elt t∧t=te)
 (Xo:swapsWith (.ListComp elt [⟨tg,iter,ifs,0⟩] scope pos) (some (.Name y py)) K7.line X.env=pure true:=by rfl) (Aw:∀x,foldedSetIterable iter X.env x=pure x:=by intro _;rfl) (eN:X.N=N:=by rfl) (eo:X.env.scope.names=out:=by rfl) :
 PS X (.Assign [.Name y py] (.ListComp elt [⟨tg,iter,ifs,0⟩] scope pos) K7) (Jf (U9 is wi g tt te) (mB j)):=Ek N out is hN hj hy hc hi hk hs hg (fun C s H ex=>let ⟨_,h,e⟩:=ht C s H ex;e▸h) he Xo Aw eN eo
end
theorem nX{lo:Int}{n:Nat}{g:TG}{tt:TT}{te:TE}{Q:List V→Hp→Prop}{σ:St}{H:Hp}(hn:n≤sizeLine)(Pv:Nat→List V→St→Hp→Prop)(h0:Pv 0 [] σ H)(hlen:∀i ys σ H,Pv i ys σ H→ys.length≤i)
  (hs:∀i ys σ H,i<n→Pv i ys σ H→g (.int (lo+i)) σ H fun σ2 H2=>tt σ2 H2 fun b H3=>if b=true then te σ2 H3 fun v H4=>Pv (i+1) (ys++[v]) σ2 H4 else Pv (i+1) ys σ2 H3)
  (hd:∀ys σ H,Pv n ys σ H→Q ys H):HD g tt te (Nz lo n) Q σ H:=by
 refine⟨fun i m ys σ H=>m=n-i∧i≤n∧Pv i ys σ H,⟨n,by simp,aaz _,h0⟩,?_⟩
 rintro i m ys σ H ⟨rfl,hi,p⟩
 have hl:=hlen i ys σ H p
 by_cases jQ:i<n
 ·refine .inr ⟨jQ,by omega,Pv (i+1),fun Rl σ' H' p'=>⟨n-(i+1),by omega,rfl,jQ,p'⟩,fun x H' y=>?_⟩
  obtain⟨rfl,rfl⟩:=y
  exact hs i ys σ _ jQ p
 ·have e:i=n:=by omega
  subst e
  exact .inl ⟨WL _,by omega,hd ys σ H p⟩
theorem kO{K:Qqy}{a:Addr}{xs:List V}{g:TG}{tt:TT}{te:TE}{Q:List V→Hp→Prop}{σ:St}{H:Hp}(hn:xs.length≤sizeLine)(Pv:Nat→List V→St→Hp→Prop)(h0:Pv 0 [] σ H)(hl:∀i ys σ H,i≤xs.length→Pv i ys σ H→gH K H a xs∧ys.length≤i)
  (hs:∀i x ys σ H,xs[i]?=some x→Pv i ys σ H→g x σ H fun σ2 H2=>tt σ2 H2 fun b H3=>if b=true then te σ2 H3 fun v H4=>Pv (i+1) (ys++[v]) σ2 H4 else Pv (i+1) ys σ2 H3)
  (hd:∀ys σ H,Pv xs.length ys σ H→Q ys H):HD g tt te (Q6 K a) Q σ H:=by
 refine⟨fun i m ys σ H=>m=xs.length-i∧i≤xs.length∧Pv i ys σ H,⟨xs.length,by simp,aaz _,h0⟩,?_⟩
 rintro i m ys σ H ⟨rfl,hi,p⟩
 obtain⟨q,hy⟩:=hl i ys σ H hi p
 by_cases jQ:i<xs.length
 ·refine .inr ⟨⟨xs,xs[i],q,by simp[jQ]⟩,by omega,Pv (i+1),fun Rl σ' H' p'=>⟨xs.length-(i+1),by omega,rfl,jQ,p'⟩,fun x H' y=>?_⟩
  obtain⟨rfl,y⟩:=y
  exact hs i x ys σ _ (y xs q) p
 ·have e:i=xs.length:=by omega
  subst e
  exact .inl ⟨⟨xs,q,WL _⟩,by omega,hd ys σ H p⟩
end L2
namespace PySem
section
variable{prog:Program}{w:World}{A:Around}{E:Qqq}{s:Shared}
end
end PySem
namespace L2
open PySem PySem.Spec PyProof.Rows
noncomputable def Sj(lo st:Int)(n:Nat):It:=⟨fun i _=>i<n,fun i H x H'=>H'=H∧x=.int (lo+i*st),fun i _=>n≤i⟩
theorem El{P:Program}{w:World}{K:PySem.W.Frag}{tg:Expr}(it:Addr)(lo st:Int)(n:Nat):Turn P w K tg (Sj lo st n) [it] it (fun i h=>IsRangeIter h it (lo+(i:Nat)*st) ((n:Int)-(i:Nat)) st) where
 mem:=by simp
 obj:=fun i h st b hb=>by
  have e:b=it:=by simpa using hb
  subst e
  exact⟨_,st,fun v z=>by
   have z':Data.fields _=Data.cell v:=z
   cases z'⟩
 keep:=fun i h h' st k=>k it (by simp) _ st
 item:=by
  intro X hP hw hK hc i c_ s σ H E I hf stt hg
  subst hP hw hK
  obtain⟨f0,f1,f2,f3,f4,f5⟩:=hf it (by simp)
  have W:=Walks.range (prog:=X.prog) (w:=X.w) (I.ok.hd hc) it lo st n
  refine W.item i s _ _ hg stt fun v h' tk hv Bm kk=>?_
  obtain⟨t,rfl⟩:=hv
  have I1:Inv X c_ σ H {s with heap:=h',toks:=tk}:=I.turned (fun b o hb e=>kk b o (by simpa using hb) e) f0 f1 f3 f4 f5
  exact⟨_,rfl,y7 (s:={s with heap:=h',toks:=tk}) (n:="range_iterator") Bm rfl rfl (by decide) ⟨.int (lo+i*st),H,I1,⟨t,rfl⟩,⟨rfl,rfl⟩,Bm,fun b hb=>(hf b hb).1⟩⟩
 done:=by
  intro X hP hw hK hc i c_ s σ H E I hf st hg
  subst hP hw hK
  obtain⟨f0,f1,f2,f3,f4,f5⟩:=hf it (by simp)
  exact wpAny_pyNext_range_end (I.ok.hd hc) st (by have:n≤i:=hg;omega) fun h' eb=>⟨rfl,I.turned (t':=s.toks) (fun b o hb e=>eb b o hb e) f0 f1 f3 f4 f5⟩
 self:=fun _ _ _ _ _ st h=>wpAny_pyIter_rangeiter st h
theorem rangeSize_down(a b:Int):Builtin.Range.rangeSize a b (-1)=((a-b).toNat:Int):=by
 unfold Builtin.Range.rangeSize
 simp only [show ¬((-1:Int)>0) by decide,abS]
 have e:(- -1:Int)=1:=by decide
 rw[e,Int.ediv_one]
 split<;>omega
theorem small_down{a b:Int}(ha:-(2 ^ 61)≤a)(Qv:a<2 ^ 61)(hb:-(2 ^ 61)≤b)(hb':b<2 ^ 61):Builtin.Range.small a b (-1)=true:=by
 unfold Builtin.Range.small
 rw[rangeSize_down]
 simp only [Builtin.Range.rangeFitsLong,abf,aco,abV,ab5,show ¬((-1:Int)>0) by decide,abS]
 omega
section
variable{X:Cx}{tg:Expr}
def Sk(ta:TA):TI:=fun σ H R=>ta σ H fun vs H1=>∃i j:Int,vs=[.int i,.int j,.int (-1)]∧(-(2 ^ 61)≤i∧i<2 ^ 61∧-(2 ^ 61)≤j∧j<2 ^ 61)∧R (Sj i (-1) (i-j).toNat) H1
theorem tf{a b c:Expr}{ta:TA}{p pos:Pos}(hg:Gl X "range")(hm:X.mg "range"=none)(ha:PA X [a,b,c] ta)(hs:starEach [a,b,c] X.env=[(false,eval a X.env),(false,eval b X.env),(false,eval c X.env)]:=by rfl)
  (Bn:starEach [b,c] X.env=[(false,eval b X.env),(false,eval c X.env)]:=by rfl):PI X tg (.Call (.Name "range" p) [a,b,c] [] pos) (Sk ta):=by
 intro c_ s σ H R I h
 refine Call_ (nN I hg hm boot_range (aaZ (i6 (ha pos c_ s σ H _ I h) fun us s1 iF=>?_) (by rw[hs,Bn]) (by rw[Bn];rfl)))
 obtain⟨vs,H1,I1,r1,q1⟩:=iF
 obtain⟨i,j,e,⟨q1,q2,q3,q4⟩,q⟩:=q1
 subst e
 cases r1 with
 | cons r rr=>
  cases rr with
  | cons r' rr=>
   cases rr with
   | cons r'' rr=>
    cases rr
    obtain⟨t,rfl⟩:=r
    obtain⟨t',rfl⟩:=r'
    obtain⟨t'',rfl⟩:=r''
    refine call_range_3 (by decide) ?_ (Or.inl (PyProof.noPylong_small (by decide)))
    refine wpAny_pyIter_range (IsRange.new ..) (small_down q1 q2 q3 q4) ?_
    generalize ho:({cls:=.type "range",data:=.fields #[.int i t,.int j t',.int (-1) t'']}:Obj)=o
    have I2:Inv X c_ σ H1 {s1 with heap:=s1.heap.push o,toks:=s1.toks}:=I1.kept fun b o e=>aab _ e
    refine⟨(s1.heap.push o).objs.size,[(s1.heap.push o).objs.size],_,_,H1,rfl,I2.kept (t':=s1.toks) fun b o e=>aab _ e,El _ i (-1) (i-j).toNat,?_,fun b hb=>?_,q⟩
    ·show IsRangeIter _ _ (i+((0:Nat):Int)*(-1)) ((((i-j).toNat:Nat):Int)-((0:Nat):Int)) (-1)
     have e1:i+((0:Nat):Int)*(-1)=i:=by simp
     have e2:(((i-j).toNat:Nat):Int)-((0:Nat):Int)=Builtin.Range.rangeSize i j (-1):=by rw[rangeSize_down];simp
     rw[e1,e2]
     exact aav _ rfl
    ·have e:b=(s1.heap.push o).objs.size:=by simpa using hb
     subst e
     exact I2.y6 (WL _) (I2.iH.fresh (WL _))
theorem Cr:tQ X (.type "range") (fun xs H Q=>∃j:Int,xs=[.int j]∧∀p,H p=none→Q (.ref p) (upd H p (.IZ 0 j))):=by
 intro c_ s σ H xs us Q I r h
 obtain⟨j,rfl,q⟩:=h
 obtain⟨u,rfl,ru⟩:=vals1 r
 obtain⟨t,rfl⟩:=ru
 refine call_range_1 ⟨.ref s.heap.objs.size,_,I.laid (o:=.IZ 0 j) (fun b o e=>aab _ e) (WL _) ⟨_,_,_,aav _ rfl⟩,rfl,q _ (I.iH.fresh (WL _))⟩
end
theorem ql{lo st:Int}{n:Nat}{g:TG}{tb:TS}{D:Ends}{σ:St}{H:Hp}(Pv:Nat→St→Hp→Prop)(h0:Pv 0 σ H)
  (hs:∀i σ H,i<n→Pv i σ H→g (.int (lo+i*st)) σ H fun σ2 H2=>tb {D with nx:=Pv (i+1),ct:=Pv (i+1),bk:=D.nx} σ2 H2) (hd:∀σ H,Pv n σ H→D.nx σ H) :
  ∃W:Nat→Nat→St→Hp→Prop,(∃m,W 0 m σ H)∧∀i m σ H,W i m σ H→
   ((Sj lo st n).stop i H∧D.nx σ H)∨((Sj lo st n).go i H∧∃N:St→Hp→Prop,(∀σ' H',N σ' H'→∃m',m'<m∧W (i+1) m' σ' H')∧∀x H',(Sj lo st n).Jg i H x H'→g x σ H' fun σ2 H2=>tb {D with nx:=N,ct:=N,bk:=D.nx} σ2 H2):=by
 refine⟨fun i m σ H=>m=n-i∧i≤n∧Pv i σ H,⟨n,by simp,aaz _,h0⟩,?_⟩
 rintro i m σ H ⟨rfl,hi,p⟩
 by_cases jQ:i<n
 ·refine .inr ⟨jQ,Pv (i+1),fun σ' H' p'=>⟨n-(i+1),by omega,rfl,jQ,p'⟩,fun x H' y=>?_⟩
  obtain⟨e,y⟩:=y
  subst e y
  exact hs i σ _ jQ p
 ·have e:i=n:=by omega
  subst e
  exact .inl ⟨WL _,hd σ H p⟩
section
variable{X:Cx}
theorem jG:tQ X (.builtin "isinstance") (fun xs H Q=>∃x T t b,xs=[x,.ty T]∧wk X.K H x t∧W.kitOne X.K t (.type T)=some b∧Q (.bl b) H):=by
 intro c_ s σ H xs us Q I r h
 obtain⟨x,T,t,b,rfl,ty,e,q⟩:=h
 obtain⟨u,u',rfl,ru,Xp⟩:=vals2 r
 cases (show u'=Value.type T from Xp)
 exact Hu I ru ty e fun tk=>⟨.bl b,H,I.tok tk,rfl,q⟩
theorem zo:∀{xs:List Str} {us:List Value},Vals (xs.map V.str) us→StrsAre us xs
 | [],_,h=>by cases h;exact .nil
 | x::r,_,h=>by
  cases h with
  | cons a t=>
   obtain⟨tk,rfl⟩:=a
   exact .cons x tk (zo t)
def rJoin(K:Qqy):V→List V→Hp→VK→Prop:=fun x vs H Q=>∃z l xs,x=.str z∧vs=[.ref l]∧gH K H l (xs.map V.str)∧(xs.map (·.length)).sum+xs.length*z.length≤16777216∧Q (.str (Txt.join z xs)) H
theorem Mc:Wq X "str.join" (rJoin X.K):=by
 intro c_ s σ H x xs v us Q I rx r h
 obtain⟨z,l,ys,rfl,rfl,hl,hz,q⟩:=h
 obtain⟨u,rfl,ru⟩:=vals1 r
 cases ru
 obtain⟨t,rfl⟩:=rx
 obtain⟨h_,rv,p,_⟩:=I.list hl
 exact join_list p.isList (by simpa using zo rv) hz fun t' k=>⟨.str _,H,I.tok k,⟨t',rfl⟩,q⟩
end
inductive pC(K:Qqy)(H:Hp):Nat→V→V→Bool→Prop
 | flat {n x y} (fx:l5 x=true) (fy:l5 y=true):pC K H n x y (Hw x y)
 | lists {n a c xs ys} {e:Nat→Bool} (h1:gH K H a xs) (h2:gH K H c ys) (hl:xs.length=ys.length) (he:∀(j:Nat) u v,xs[j]?=some u→ys[j]?=some v→pC K H n u v (e j)):pC K H (n+1) (.ref a) (.ref c) ((List.range xs.length).all e)
 | JC {n a c xs ys} (h1:gH K H a xs) (h2:gH K H c ys) (hl:xs.length≠ys.length):pC K H n (.ref a) (.ref c) false
 | rD {n a c xs ys} {e:Nat→Bool} (h1:rG K H a xs) (h2:rG K H c ys) (he:∀(j:Nat) u v,xs[j]?=some u→ys[j]?=some v→pC K H n u v (e j)):pC K H (n+1) (.ref a) (.ref c) ((List.range (min xs.length ys.length)).all e&&xs.length ==ys.length)
 | wy {n a xs y} (h1:gH K H a xs) (fy:l5 y=true):pC K H n (.ref a) y false
 | wz {n a xs y} (h1:gH K H a xs) (fy:l5 y=true):pC K H n y (.ref a) false
 | zp {n a xs y} (h1:rG K H a xs) (fy:l5 y=true):pC K H n (.ref a) y false
 | zq {n a xs y} (h1:rG K H a xs) (fy:l5 y=true):pC K H n y (.ref a) false
 | zr {n a c xs ys} (h1:gH K H a xs) (h2:rG K H c ys):pC K H n (.ref a) (.ref c) false
 | zt {n a c xs ys} (h1:rG K H a xs) (h2:gH K H c ys):pC K H n (.ref a) (.ref c) false
theorem JD:∀{x:V},l5 x=true→Hw x x=true:=by
 intro x h
 cases x<;>simp[l5,Hw] at *
section
variable{X:Cx}{c_:Qqz}{σ:St}{H:Hp}{s:Shared}
theorem Inv.NH{a c:Addr}{xs ys:List V}(I:Inv X c_ σ H s)(h1:gH X.K H a xs)(h2:rG X.K H c ys):a≠c:=by
 obtain⟨h_,_,p,_⟩:=I.list h1
 obtain⟨lY,_,p2,_⟩:=I.tuple h2
 exact SeqAt.ne_of_list_tuple p.isList (show s.heap.IsTuple c lY.toArray from p2)
theorem pC.self{n:Nat}{x y:V}{b:Bool}(I:Inv X c_ σ H s)(h:pC X.K H n x y b):x=y→b=true:=by
 induction h with
 | flat fx fy=>intro e;subst e;exact JD fx
 | lists h1 h2 hl he ih=>
  intro e
  cases e
  have:=I.pI h1 h2
  subst this
  refine abL.mpr fun j hj=>?_
  have hj:=aaX.mp hj
  exact ih j _ _ (TZ hj) (TZ hj) rfl
 | JC h1 h2 hl=>intro e;cases e;exact absurd (aa6 List.length (I.pI h1 h2)) hl
 | rD h1 h2 he ih=>
  intro e
  cases e
  have:=I.Hn h1 h2
  subst this
  rw[abf]
  refine⟨abL.mpr fun j hj=>?_,by simp⟩
  have hj:=aaX.mp hj
  rw[Nat.min_self] at hj
  exact ih j _ _ (TZ hj) (TZ hj) rfl
 | wy h1 fy=>intro e;subst e;exact absurd (show false=true from fy) aaf
 | wz h1 fy=>intro e;subst e;exact absurd (show false=true from fy) aaf
 | zp h1 fy=>intro e;subst e;exact absurd (show false=true from fy) aaf
 | zq h1 fy=>intro e;subst e;exact absurd (show false=true from fy) aaf
 | zr h1 h2=>intro e;cases e;exact absurd rfl (I.NH h1 h2)
 | zt h1 h2=>intro e;cases e;exact absurd rfl (I.NH h2 h1)
theorem qm{y:V}{v:Value}(r:RelV y v)(f:l5 y=true):v=.none∨(∃b,v=.bool b)∨(∃i t,v=.int i t)∨∃x t,v=.str x t:=by
 cases y with
 | jm=>exact .inl r
 | bl b=>exact .inr (.inl ⟨b,r⟩)
 | int i=>obtain⟨t,e⟩:=r;exact .inr (.inr (.inl ⟨i,t,e⟩))
 | str x=>obtain⟨t,e⟩:=r;exact .inr (.inr (.inr ⟨x,t,e⟩))
 | _=>exact absurd (show false=true from f) aaf
theorem oE{xs:List V}{h_:List Value}(rv:Vals xs h_){j:Nat}(h:j<h_.toArray.size):∃x,xs[j]?=some x∧RelV x h_.toArray[j]:=by
 have hl:=rv.length
 have hj:j<h_.length:=by simpa using h
 have hx:j<xs.length:=by omega
 obtain⟨u,hu,ru⟩:=rv.get (TZ hx)
 refine⟨xs[j],TZ hx,?_⟩
 rw[TZ hj] at hu
 cases hu
 simpa using ru
theorem pC.at{n:Nat}{x y:V}{b:Bool}(I:Inv X c_ σ H s)(h:pC X.K H n x y b):∀(A:Around)(u v:Value),RelV x u→RelV y v→A.units+n<cLine→SeqAt.EqAt A s u v b:=by
 induction h with
 | flat fx fy=>intro A u v ru rv _;exact Jo ru rv fx fy
 | @lists n a c xs ys e h1 h2 hl he ih=>
  intro A u v ru rv hu
  cases ru;cases rv
  by_cases Tw:a=c
  ·subst Tw
   have hb:=pC.self I (pC.lists h1 h2 hl he) rfl
   rw[hb]
   exact SeqAt.EqAt.same _
  ·obtain⟨h_,r1,p1,_⟩:=I.list h1
   obtain⟨lY,r2,p2,_⟩:=I.list h2
   have l1:=r1.length
   have l2:=r2.length
   refine SeqAt.EqAt.of_refs Tw ?_
   have q:=SeqAt.RcAt.lists (A:=A) (e:=e) p1.isList p2.isList (by simp;omega) (by omega) fun j g1 g2=>by
    obtain⟨x,ex,rx⟩:=oE r1 g1
    obtain⟨y,ey,ry⟩:=oE r2 g2
    exact ih j x y ex ey A.in1 _ _ rx ry (by show A.units+1+n<cLine;omega)
   rw[aai,←l1] at q
   exact q
 | @JC n a c xs ys h1 h2 hl=>
  intro A u v ru rv hu
  cases ru;cases rv
  obtain⟨h_,r1,p1,_⟩:=I.list h1
  obtain⟨lY,r2,p2,_⟩:=I.list h2
  have l1:=r1.length
  have l2:=r2.length
  refine SeqAt.EqAt.of_refs (fun e=>?_) (SeqAt.RcAt.lists_lengths p1.isList p2.isList (by simp;omega) (by omega))
  subst e
  exact hl (aa6 List.length (I.pI h1 h2))
 | @rD n a c xs ys e h1 h2 he ih=>
  intro A u v ru rv hu
  cases ru;cases rv
  by_cases Tw:a=c
  ·subst Tw
   have hb:=pC.self I (pC.rD h1 h2 he) rfl
   rw[hb]
   exact SeqAt.EqAt.same _
  ·obtain⟨h_,r1,p1,_⟩:=I.tuple h1
   obtain⟨lY,r2,p2,_⟩:=I.tuple h2
   have l1:=r1.length
   have l2:=r2.length
   refine SeqAt.EqAt.of_refs Tw ?_
   have q:=SeqAt.RcAt.tuples (A:=A) (e:=e) (show s.heap.IsTuple a h_.toArray from p1) (show s.heap.IsTuple c lY.toArray from p2) (by omega) fun j g1 g2=>by
    obtain⟨x,ex,rx⟩:=oE r1 g1
    obtain⟨y,ey,ry⟩:=oE r2 g2
    exact ih j x y ex ey A.in1 _ _ rx ry (by show A.units+1+n<cLine;omega)
   rw[aai,aai,←l1,←l2] at q
   exact q
 | @wy n a xs y h1 fy=>
  intro A u v ru rv hu
  cases ru
  obtain⟨h_,r1,p1,_⟩:=I.list h1
  rcases qm rv fy with rfl|⟨b,rfl⟩|⟨i,t,rfl⟩|⟨x,t,rfl⟩
  ·exact .list_none p1.isList (by omega)
  ·exact .list_bool b p1.isList (by omega)
  ·exact .list_int i t p1.isList (by omega)
  ·exact .list_str x t p1.isList (by omega)
 | @wz n a xs y h1 fy=>
  intro A u v ru rv hu
  cases rv
  obtain⟨h_,r1,p1,_⟩:=I.list h1
  rcases qm ru fy with rfl|⟨b,rfl⟩|⟨i,t,rfl⟩|⟨x,t,rfl⟩
  ·exact .none_list p1.isList (by omega)
  ·exact .bool_list b p1.isList (by omega)
  ·exact .int_list i t p1.isList (by omega)
  ·exact .str_list x t p1.isList (by omega)
 | @zp n a xs y h1 fy=>
  intro A u v ru rv hu
  cases ru
  obtain⟨h_,r1,p1,_⟩:=I.tuple h1
  have p1:s.heap.IsTuple a h_.toArray:=p1
  rcases qm rv fy with rfl|⟨b,rfl⟩|⟨i,t,rfl⟩|⟨x,t,rfl⟩
  ·exact .tuple_none p1 (by omega)
  ·exact .tuple_bool b p1 (by omega)
  ·exact .tuple_int i t p1 (by omega)
  ·exact .tuple_str x t p1 (by omega)
 | @zq n a xs y h1 fy=>
  intro A u v ru rv hu
  cases rv
  obtain⟨h_,r1,p1,_⟩:=I.tuple h1
  have p1:s.heap.IsTuple a h_.toArray:=p1
  rcases qm ru fy with rfl|⟨b,rfl⟩|⟨i,t,rfl⟩|⟨x,t,rfl⟩
  ·exact .none_tuple p1 (by omega)
  ·exact .bool_tuple b p1 (by omega)
  ·exact .int_tuple i t p1 (by omega)
  ·exact .str_tuple x t p1 (by omega)
 | @zr n a c xs ys h1 h2=>
  intro A u v ru rv hu
  cases ru;cases rv
  obtain⟨h_,r1,p1,_⟩:=I.list h1
  obtain⟨lY,r2,p2,_⟩:=I.tuple h2
  exact .list_tuple p1.isList (show s.heap.IsTuple c lY.toArray from p2) (by omega)
 | @zt n a c xs ys h1 h2=>
  intro A u v ru rv hu
  cases ru;cases rv
  obtain⟨h_,r1,p1,_⟩:=I.tuple h1
  obtain⟨lY,r2,p2,_⟩:=I.list h2
  exact .tuple_list (show s.heap.IsTuple a h_.toArray from p1) p2.isList (by omega)
def O8(x y:V):Prop:=∃a c,x=.ref a∧y=.ref c
theorem pC.rc{n:Nat}{x y:V}{b:Bool}{A:Around}{u v:Value}(I:Inv X c_ σ H s)(h:pC X.K H n x y b)(sq:O8 x y)(ru:RelV x u)(rv:RelV y v)(hu:A.units+n+1<cLine):SeqAt.RcAt A s u v b∧SeqAt.RcNeAt A s u v (!b):=by
 obtain⟨a0,c0,rfl,rfl⟩:=sq
 cases ru;cases rv
 cases h with
 | flat fx fy=>exact absurd (show false=true from fx) aaf
 | @lists n a c xs ys e h1 h2 hl he=>
  obtain⟨h_,r1,p1,_⟩:=I.list h1
  obtain⟨lY,r2,p2,_⟩:=I.list h2
  have l1:=r1.length
  have l2:=r2.length
  have el:∀j (g1:j<h_.toArray.size) (g2:j<lY.toArray.size),SeqAt.EqAt A.in1 s h_.toArray[j] lY.toArray[j] (e j):=fun j g1 g2=>by
   obtain⟨x,ex,rx⟩:=oE r1 g1
   obtain⟨y,ey,ry⟩:=oE r2 g2
   exact(he j x y ex ey).at I A.in1 _ _ rx ry (by show A.units+1+n<cLine;omega)
  have q:=SeqAt.RcAt.lists (A:=A) (e:=e) p1.isList p2.isList (by simp;omega) (by omega) el
  have q':=SeqAt.RcNeAt.lists (A:=A) (e:=e) p1.isList p2.isList (by simp;omega) (by omega) el
  rw[aai,←l1] at q q'
  exact⟨q,q'⟩
 | @JC n a c xs ys h1 h2 hl=>
  obtain⟨h_,r1,p1,_⟩:=I.list h1
  obtain⟨lY,r2,p2,_⟩:=I.list h2
  have l1:=r1.length
  have l2:=r2.length
  exact⟨SeqAt.RcAt.lists_lengths p1.isList p2.isList (by simp;omega) (by omega),SeqAt.RcNeAt.lists_lengths p1.isList p2.isList (by simp;omega) (by omega)⟩
 | @rD n a c xs ys e h1 h2 he=>
  obtain⟨h_,r1,p1,_⟩:=I.tuple h1
  obtain⟨lY,r2,p2,_⟩:=I.tuple h2
  have l1:=r1.length
  have l2:=r2.length
  have el:∀j (g1:j<h_.toArray.size) (g2:j<lY.toArray.size),SeqAt.EqAt A.in1 s h_.toArray[j] lY.toArray[j] (e j):=fun j g1 g2=>by
   obtain⟨x,ex,rx⟩:=oE r1 g1
   obtain⟨y,ey,ry⟩:=oE r2 g2
   exact(he j x y ex ey).at I A.in1 _ _ rx ry (by show A.units+1+n<cLine;omega)
  have q:=SeqAt.RcAt.tuples (A:=A) (e:=e) (show s.heap.IsTuple a0 h_.toArray from p1) (show s.heap.IsTuple c0 lY.toArray from p2) (by omega) el
  have q':=SeqAt.RcNeAt.tuples (A:=A) (e:=e) (show s.heap.IsTuple a0 h_.toArray from p1) (show s.heap.IsTuple c0 lY.toArray from p2) (by omega) el
  rw[aai,aai,←l1,←l2] at q q'
  exact⟨q,q'⟩
 | wy h1 fy=>exact absurd (show false=true from fy) aaf
 | wz h1 fy=>exact absurd (show false=true from fy) aaf
 | zp h1 fy=>exact absurd (show false=true from fy) aaf
 | zq h1 fy=>exact absurd (show false=true from fy) aaf
 | @zr n a c xs ys h1 h2=>
  obtain⟨h_,r1,p1,_⟩:=I.list h1
  obtain⟨lY,r2,p2,_⟩:=I.tuple h2
  exact⟨.list_tuple p1.isList (show s.heap.IsTuple c0 lY.toArray from p2) (by omega),.list_tuple p1.isList (show s.heap.IsTuple c0 lY.toArray from p2) (by omega)⟩
 | @zt n a c xs ys h1 h2=>
  obtain⟨h_,r1,p1,_⟩:=I.tuple h1
  obtain⟨lY,r2,p2,_⟩:=I.list h2
  exact⟨.tuple_list (show s.heap.IsTuple a0 h_.toArray from p1) p2.isList (by omega),.tuple_list (show s.heap.IsTuple a0 h_.toArray from p1) p2.isList (by omega)⟩
end
section
variable{X:Cx}
def WD(K:Qqy)(n:Nat):R2:=fun x y H Q=>∃b,O8 x y∧pC K H n x y b∧Q (.bl b) H
def WE(K:Qqy)(n:Nat):R2:=fun x y H Q=>∃b,O8 x y∧pC K H n x y b∧Q (.bl (!b)) H
theorem zu(n:Nat)(hu:X.A.units+n+1<cLine):xp X (compareOp .Eq) (WD X.K n):=by
 intro c_ s σ H x y u v Q I rx ry h
 obtain⟨b,sq,e,q⟩:=h
 exact(e.rc I sq rx ry hu).1 X.prog X.w X.xe _ ⟨.bl b,H,I,rfl,q⟩
theorem O9(n:Nat)(hu:X.A.units+n+1<cLine):xp X (compareOp .NotEq) (WE X.K n):=by
 intro c_ s σ H x y u v Q I rx ry h
 obtain⟨b,sq,e,q⟩:=h
 exact(e.rc I sq rx ry hu).2 X.prog X.w X.xe _ ⟨.bl (!b),H,I,rfl,q⟩
end
theorem pC.Md{K:Qqy}{H:Hp}{n:Nat}{β:Type}[DecidableEq β]{F:β→V→Prop}(hF:∀p q u v,F p u→F q v→pC K H n u v (decide (p=q))){a c:Addr}{xs ys:List V}{ps qs:List β}
  (h1:gH K H a xs) (h2:gH K H c ys) (r1:Paired F ps xs) (r2:Paired F qs ys):pC K H (n+1) (.ref a) (.ref c) (decide (ps=qs)):=by
 have l1:=r1.length
 have l2:=r2.length
 have Tx:∀{ps:List β} {xs:List V},Paired F ps xs→∀(j:Nat) u,xs[j]?=some u→∃p,ps[j]?=some p∧F p u:=by
  intro ps xs r
  induction r with
  | nil=>intro j u h;simp at h
  | cons f t ih=>
   intro j u h
   cases j with
   | zero=>simp at h;subst h;exact⟨_,rfl,f⟩
   | succ j=>simpa using ih j u (by simpa using h)
 by_cases hl:xs.length=ys.length
 ·have e:pC K H (n+1) (.ref a) (.ref c) ((List.range xs.length).all fun j=>decide (ps[j]?=qs[j]?)):=.lists h1 h2 hl fun j u v hu hv=>by
   obtain⟨p,ep,fp⟩:=Tx r1 j u hu
   obtain⟨q,eq,fq⟩:=Tx r2 j v hv
   have:=hF p q u v fp fq
   rw[ep,eq]
   have e:decide (some p=some q)=decide (p=q):=by simp
   rw[e]
   exact this
  have e2:((List.range xs.length).all fun j=>decide (ps[j]?=qs[j]?))=decide (ps=qs):=by
   by_cases h:ps=qs
   ·subst h;simp
   ·rw[Z6 h,abP]
    intro z
    refine h (List.ext_getElem? fun j=>?_)
    by_cases hj:j<xs.length
    ·simpa using abL.mp z j (aaX.mpr hj)
    ·rw[List.getElem?_eq_none_iff.mpr (by omega),List.getElem?_eq_none_iff.mpr (by omega)]
  rw[←e2]
  exact e
 ·rw[Z6 fun z=>hl (by rw[←l1,←l2,z])]
  exact .JC h1 h2 hl
theorem pC.JE{K:Qqy}{H:Hp}{n:Nat}(p q:Str):pC K H n (.str p) (.str q) (decide (p=q)):=by
 have:Hw (.str p) (.str q)=decide (p=q):=(Bool.beq_eq_decide_eq p q)
 rw[←this]
 exact .flat rfl rfl
theorem pC.O_{K:Qqy}{H:Hp}{n:Nat}(p q:Int):pC K H n (.int p) (.int q) (decide (p=q)):=by
 have:Hw (.int p) (.int q)=decide (p=q):=(Bool.beq_eq_decide_eq p q)
 rw[←this]
 exact .flat rfl rfl
structure Sl(P:Program)(w:World)(outer:List Env)(H H':Hp)(s s':Shared)(e C:Addr):Prop where
 os:s'.os=s.os
 bare:AllBare s'.gens
 un:Un (ue outer) [] H H' s.heap s'.heap
 iH:rC P w H' s'.heap
 fl:∃B t,Heap.FlyingW B outer e (.ref C) (.ref t) s'.heap∧∀b o,s'.heap.get? b=some o→b∉ue outer→((∃u,H' b=some u)∨∃o',s.heap.get? b=some o')→B.get? b=some o
 new:s.heap.get? e=none
 free:H' e=none
def tK(P:Program)(w:World):GI:=fun outer H s E ev s'=>∃e C H',ev=.ref e∧Sl P w outer H H' s s' e C∧E (.ref C) none H'
theorem iY.ex{P:Program}{w:World}{H:Hp}{h:Heap}{a:Addr}{o:HO}(x:iY P w H h a o):∃ob,h.get? a=some ob:=by
 cases o with
 | lst xs=>obtain⟨_,_,_,_,e⟩:=x;exact⟨_,e⟩
 | tup xs=>obtain⟨_,_,_,o,e,_⟩:=x;exact⟨_,e⟩
 | dK kvs=>obtain⟨_,_,_,_,o,_,_,e,_⟩:=x;exact⟨_,e⟩
 | dT kvs=>obtain⟨_,_,_,_,o,_,_,e,_⟩:=x;exact⟨_,e⟩
 | set S n=>obtain⟨o,_,_,_,e,_⟩:=x;exact⟨_,e⟩
 | ins C dx fs=>obtain⟨_,_,_,e,_⟩:=x;exact⟨_,e⟩
 | own y=>obtain⟨_,e⟩:=x;exact⟨_,e⟩
 | xd fs=>obtain⟨_,⟨_,_,_,e,_⟩,_⟩:=x;exact⟨_,e⟩
 | IZ lo hi=>obtain⟨_,_,_,e⟩:=x;exact⟨_,e⟩
 | nq ob u=>obtain⟨e,_⟩:=x;exact⟨_,e⟩
 | LC ps=>exact⟨_,(show h.get? a=some _ from x)⟩
 | met f y=>exact⟨_,(show h.get? a=some _ from x)⟩
 | ext φ=>obtain⟨_,⟨_,e⟩,_⟩:=x;exact⟨_,e⟩
section
variable{X:Cx}{c_:Qqz}{σ:St}{H H':Hp}{s s':Shared}{e C:Addr}{M:Model}{E:Qqq}
structure Bd(X:Cx):Prop where
 stack:X.stack=X.env::X.outer
 frame:X.env.frame=some X.env.locals
 ex:X.ex=[]
theorem Inv.LW(I:Inv X c_ σ H s){b:Addr}{o:Obj}(h:X.s₀.heap.get? b=some o)(nf:b∉X.fs):b∉ue X.stack:=fun hb=>by
 rcases Z8.mp (I.wg b hb) with z|z
 ·rw[z] at h
  exact absurd (aaD (aau h) I.ok.above) (abg _)
 ·exact nf z
theorem JF(I:Inv X c_ σ H s)(bd:Bd X)(un:Un (ue X.stack) [] H H' s.heap s'.heap)(hos:s'.os=s.os)(Tz:AllBare s'.gens)(iH:rC X.prog X.w H' s'.heap){B IH:Heap}{t:Addr}
  (hB:∀b o,s'.heap.get? b=some o→b∉ue X.stack→((∃u,H' b=some u)∨∃o',s.heap.get? b=some o')→B.get? b=some o)
  (hF:s'.heap.FunFrames B X.stack) (wA:Heap.FlyingW B X.outer e (.ref C) (.ref t) IH) (up:s'.heap.UpToSlots IH) (new:s.heap.get? e=none) (Xq:H' e=none) :
  Sl X.prog X.w X.outer X.H₀ H' X.s₀ {s' with heap:=IH} e C:=by
 have hex:=bd.ex
 have TB:∀b∈ue X.stack,H' b=none:=fun b hb=>by
  obtain⟨_,o,ho,_⟩:=I.stack.mem hb
  exact un.free b o ho (I.Ca b hb) (by simp)
 have N1:∀b u,H' b=some u→b∉ue X.stack:=fun b u hu hb=>by rw[TB b hb] at hu;cases hu
 have B6:∀b o u,s'.heap.get? b=some o→H' b=some u→IH.get? b=some o:=fun b o u ho hu=>
  wA.1 b o (hB b o ho (N1 b u hu) (.inl ⟨u,hu⟩))
 have tI:∀b,b∉X.ex:=fun b z=>by rw[hex] at z;cases z
 have outS:∀b,b∈ue X.outer→b∈ue X.stack:=fun b hb=>by
  rw[bd.stack];unfold ue;rw[abq,bd.frame];exact aae _ hb
 refine⟨hos.trans I.os,Tz,⟨fun b o q n hb hx=>?_,fun b o q n hb hx=>?_,fun b o q n hx=>?_,fun b o q hx=>?_,fun b xs q=>un.rD b xs (I.base.rD b xs q),fun b o u q=>un.uP b o u (I.base.uP b o u q),fun b ps q=>?_⟩,fun a u ha=>?_,⟨B,t,wA,fun b o hb nb hc=>?_⟩,?_,Xq⟩
 ·have q1:=I.base.keep b o q n hb (tI b)
  have nf:=I.LW q hb
  exact wA.1 b o (hB b o (un.keep b o q1 (I.base.free b o q n (tI b)) nf (by simp)) nf (.inr ⟨o,q1⟩))
 ·obtain⟨sl,q1⟩:=I.base.slot b o q n hb (tI b)
  obtain⟨LD,q2⟩:=un.any q1 (I.base.free b o q n (tI b)) (by simp)
  obtain⟨_,o',qh,hd⟩:=I.ok.uQ.mem hb
  rw[q] at qh;cases qh
  obtain⟨DO,q3⟩:=up b _ q2 hd
  exact⟨DO,q3⟩
 ·obtain⟨o',q1⟩:=I.base.there b o q (tI b)
  exact un.free b o' q1 (I.base.free b o q n (tI b)) (by simp)
 ·obtain⟨o1,q1⟩:=I.base.there b o q (tI b)
  obtain⟨o2,q2⟩:=un.there b o1 q1 (by simp)
  by_cases hb:b∈ue X.stack
  ·obtain⟨_,o',qh,hd⟩:=hF.mem hb
   rw[q2] at qh;cases qh
   obtain⟨DO,q3⟩:=up b _ q2 hd
   exact⟨_,q3⟩
  ·exact⟨o2,wA.1 b o2 (hB b o2 q2 hb (.inr ⟨o1,q1⟩))⟩
 ·obtain⟨m1,e1⟩:=I.base.yt b ps q
  obtain⟨m2,e2⟩:=un.yt b _ e1
  exact⟨m1++m2,by rw[e2,Array.append_assoc]⟩
 ·refine(iH a u ha).yY (fun b v hb q=>?_) (fun _ z=>z) fun _ _ z=>z
  rcases hb with z|z
  ·rw[z] at q ⊢;exact B6 a v u q ha
  ·exact B6 b v _ q z
 ·have all:∀o1,s'.heap.get? b=some o1→b∉ue X.stack→((∃u,H' b=some u)∨∃o',s.heap.get? b=some o')→B.get? b=some o:=fun o1 q1 nf c=>by
   have z:=hB b o1 q1 nf c
   have z2:=wA.1 b o1 z
   have hb:IH.get? b=some o:=hb
   rw[hb] at z2;cases z2
   exact z
  rcases hc with⟨u,hu⟩|⟨o',qh⟩
  ·obtain⟨o1,q1⟩:=(iH b u hu).ex
   exact all o1 q1 (N1 b u hu) (.inl ⟨u,hu⟩)
  ·obtain⟨o1,q1⟩:=I.base.there b o' qh (tI b)
   obtain⟨o2,q2⟩:=un.there b o1 q1 (by simp)
   exact all o2 q2 (I.LW qh nb) (.inr ⟨o1,q1⟩)
 ·cases q:X.s₀.heap.get? e with
  | none=>rfl
  | some o=>
   obtain⟨o1,q1⟩:=I.base.there e o q (tI e)
   rw[new] at q1;cases q1
theorem JG(I:Inv X c_ σ H s)(bd:Bd X)(F:Sl X.prog X.w X.stack H H' s s' e C) :
  wpAny M X.A (leaving X.env (.ref e)) (fun _ IE=>Sl X.prog X.w X.outer X.H₀ H' X.s₀ IE e C) E s':=by
 obtain⟨B,t,fl,hB⟩:=F.fl
 have fl':=fl
 rw[bd.stack] at fl'
 refine wpAny_leaves_onW (by rw[I.ok.frames,bd.stack]) bd.frame fl' fun IH wA up=>?_
 exact JF I bd F.un F.os F.bare F.iH hB fl.2.2.1 wA up F.new F.free
theorem FH{vs:List Value}{h':Heap}(I:Inv X c_ σ H s)(bd:Bd X)(hx:Heap.MadeExcOf s.heap h' e (.ref C) vs) :
  wpAny M X.A (leaving X.env (.ref e)) (fun _ IE=>Sl X.prog X.w X.outer X.H₀ H X.s₀ IE e C) E {s with heap:=h'}:=by
 have K8:∀env∈X.stack,∀b,env.frame=some b→b∈ue X.stack:=fun env he b hb=>abI.mpr ⟨env,he,hb⟩
 have hF:=W.funFrames_hide I.stack K8
 have Xq:H e=none:=by
  cases q:H e with
  | none=>rfl
  | some u=>
   obtain⟨o,ho⟩:=(I.iH e u q).ex
   rw[hx.new] at ho;cases ho
 have un:Un (ue X.stack) [] H H s.heap h':=Un.kept hx.keeps
 have hB:∀b o,h'.get? b=some o→b∉ue X.stack→((∃u,H b=some u)∨∃o',s.heap.get? b=some o')→(W.hideAll s.heap (ue X.stack)).get? b=some o:=fun b o hb nf c=>by
  have:∃o',s.heap.get? b=some o':=by
   rcases c with⟨u,hu⟩|c
   ·exact(I.iH b u hu).ex
   ·exact c
  obtain⟨o',qh⟩:=this
  have z:=hx.keeps b o' qh
  rw[hb] at z;cases z
  exact W.hideAll_get _ qh nf
 have hF2:h'.FunFrames (W.hideAll s.heap (ue X.stack)) X.stack:=hF.of_keeps fun b o ho _=>⟨o,hx.keeps b o ho,rfl⟩
 refine wpAny_leaves_madeW (base:=W.hideAll s.heap (ue X.stack)) (h:=s.heap) (by rw[I.ok.frames,bd.stack]) bd.frame (fun b o q=>W.of_hideAll _ q) (by rw[←bd.stack];exact hF) hx fun IH t wA tup nt up=>?_
 exact JF (s':={s with heap:=h'}) I bd un rfl I.bare (I.iH.kept hx.keeps) hB hF2 wA up hx.new Xq
structure Bx(X:Cx)(E:XK):Prop where
 bd:Bd X
 calm:X.calm=true
 xe:∀ev s',wpAny (model X.prog X.w) X.A (leaving X.env ev) (fun _ IE=>tK X.prog X.w X.outer X.H₀ X.s₀ E ev IE) (fun e' IE=>tK X.prog X.w X.outer X.H₀ X.s₀ E e' IE) s'→X.xe ev s'
theorem bx{P:Program}{w:World}{K:Qqy}{mg:Qqx}{base:Heap}{N:List Str}{qual:Str}{scope:Scope}{f:Addr}{cd:Value}{A:Around}{outer:List Env}{s:Shared}{H:Hp}{E:XK} :
 Bx (wo (tK P w) P w K mg base N qual scope f cd A outer s H E) E:=⟨⟨rfl,rfl,rfl⟩,rfl,fun _ _ h=>h⟩
theorem NI{EX:XK}(b:Bx X EX):Passes (tK X.prog X.w) X EX:=fun c_ σ H s ev s' I ⟨e,C,H',he,F,q⟩=>by
 subst he
 exact b.xe _ _ (i6 (JG I b.bd F) fun _ IE F'=>⟨e,C,H',rfl,F',q⟩)
theorem JH{P:Program}{w:World}{K:Qqy}{mg:Qqx}{base:Heap}{N:List Str}{qual:Str}{scope:Scope}{f:Addr}{cd:Value}{A:Around}{outer:List Env}{s:Shared}{H:Hp}{E:XK} :
 PassesOwn (model P w) (wo (tK P w) P w K mg base N qual scope f cd A outer s H E).A (wo (tK P w) P w K mg base N qual scope f cd A outer s H E).env (wo (tK P w) P w K mg base N qual scope f cd A outer s H E).xe:=PassesOwn.leaving
structure Exc(K:Qqy)(mg:Qqx)(x:Str)(C:Addr):Prop where
 m:mg x=some (.ref C)
 q:W.excIn K C [.type "ValueError",.type "Exception",.type "BaseException",.type "object"] "ValueError.__new__"=true
def Pa(C:Addr)(EX:XK)(ta:TE):TS:=fun _ σ H=>ta σ H fun _ H1=>EX (.ref C) none H1
theorem Me{K:Qqy}{h:Heap}{C:Addr}{bmB:List Value}{newId:String}(X:K.In h)(q:W.excIn K C bmB newId=true):∃bm N nm q bs hdct sn sub ab col dd k0 k1 k2 k3 k5 mN,h.get? C=some (excClassObj nm q C N bs bm hdct sn sub ab col dd k0 k1 k2 k3 k5 newId)∧h.Ns N mN∧mN "__init__"=none∧OwnTail h bmB bm:=by
 unfold W.excIn at q
 split at q
 ·rename_i dd cd sl ho
  split at q
  ·rename_i C' bm k0 k1 k2 k3 n k5 hm hs
   simp only [abf,ab5,Bool.not_eq_true'] at q
   obtain⟨⟨⟨⟨⟨rfl,rfl⟩,TC⟩,ht⟩,iH⟩,Vi⟩:=q
   obtain⟨nm,bs,mro,ns,qn,hd,sn,sub,ab,col,del⟩:=cd
   dsimp only at hm TC iH Vi
   subst hm TC
   have K9:sl=#[k0,k1,k2,k3,some (.builtin n),k5]:=by
    obtain⟨l⟩:=sl
    simp only at hs
    rw[hs]
   subst K9
   exact⟨bm,ns,nm,qn,bs,hd,sn,sub,ab,col,dd,k0,k1,k2,k3,k5,_,X _ _ ho,.of_isNs (W.isNs_of_in X iH),W.nsMap_none_of_in X iH Vi,W.tail_of_in X ht⟩
  ·cases q
 ·cases q
theorem ki{EX:XK}{x:Str}{a:Expr}{ta:TE}{np k7 pos:Pos}(b:Bx X EX)(O:Exc X.K X.mg x C)(hg:Gl X x)(ha:PE X a ta)
  (Gu:(x ==("__debug__":Str))=false:=by decide) (hs:starEach [a] X.env=[(false,eval a X.env)]:=by rfl):PS X (.Raise (some (.Call (.Name x np) [a] [] k7)) none pos) (Pa C EX ta):=by
 intro c_ s σ H D I h
 obtain⟨bm,N,nm,q,bs,hdct,sn,sub,ab,col,dd,k0,k1,k2,k3,k5,mN,hC,hN,Vi,T⟩:=Me I.ok.mod.Q4 O.q
 refine wpAny_Raise_call_subT (C:=C) (nm:=nm) (q:=q) (N:=N) (bs:=bs) (bm:=bm) (hdct:=hdct) (sn:=sn) (sub:=sub) (ab:=ab) (col:=col) (dd:=dd) (k0:=k0) (k1:=k1) (k2:=k2) (k3:=k3) (k5:=k5)
  PySem.F.excBase_ValueError (mN:=mN) (T.hasType (by decide)) (I.ok.hd b.calm) (by rw[hs];rfl) Vi (uR I hg O.m ⟨rfl,?_⟩ Gu)
 rw[hs]
 refine aby ?_
 refine abj (i6 (ha c_ s σ H _ I h) fun u s1 iF=>?_)
 obtain⟨y,H1,I1,r1,q1⟩:=iF
 refine abB ?_
 have hk:=I1.bk
 refine⟨rfl,by show 1≤sizeLine;decide,hk _ _ hC,hN.keeps hk,T.keeps hk,fun h' e hm=>?_⟩
 exact b.xe _ _ (i6 (FH I1 b.bd hm) fun _ IE F=>⟨e,C,H1,rfl,F,q1⟩)
end
section
variable{P:Program}{w:World}{K:Qqy}{mg:Qqx}{base:Heap}
theorem xv.ok1{x qual:Str}{st:Stmt}{f:Addr}{fd:FuncData}{N ps:List Str}{k:Nat}{sp:Sp}(F:xv K x qual st f fd)(S:gv N ps (f_ st))(len:∀vs H Q E,sp vs H Q E→vs.length=ps.length)
  (vX:∀(jl:Value)(A:Around)(outer:List Env)(s:Shared)(H:Hp)(vs:List V)(Q:VK)(E:XK),kE k (A.deeper (envOfC qual (f_ st) s.heap.objs.size f jl))→sp vs H Q E→
   ∃t,Fm (wo (tK P w) P w K mg base N qual (f_ st) f jl A outer s H E) (lb st) t∧t {nx:=fun _ H'=>Q .jm H',rt:=Q} (start N vs) H):ij P w K mg base (tK P w) (k+1) f fd ps sp:=by
 obtain⟨oc,od,kV,doc,pm,an,jl,ct,IQ,rfl,lk,B5⟩:=F.ex
 exact ND lk B5 S len fun A outer s H vs Q E hr LH=>vX jl A outer s H vs Q E hr LH
theorem ij.FJ{k:Nat}{f:Addr}{fd:FuncData}{ps:List Str}{sp:Sp}(F:ij P w K mg base (tK P w) k f fd ps sp):ij P w K mg base mr k f fd ps (fun vs H Q _=>sp vs H Q E0):=
 ⟨fun vs H Q E h=>F.len vs H Q E0 h,fun A outer s H args us vs Q E hr e0 hb hv hs=>codeAny_mono (F.run A outer s H args us vs Q E0 hr e0 hb hv hs) fun r s' h=>by
  cases r with
  | error e=>obtain⟨_,_,_,_,_,z⟩:=h;exact z
  | ok fl=>cases fl<;>exact h⟩
end
section
variable{X:Cx}
def PF(X:Cx)(k:Nat)(es:List Expr)(t:TE):Prop:=
 ∀(acc:Str)(c_:Qqz)(s:Shared)(σ:St)(H:Hp)(Q:VK),acc.length≤k*1048576→Inv X c_ σ H s→t σ H Q→wpAny (model X.prog X.w) X.A (joinParts acc (evalEach es X.env)) (EP X c_ σ Q) X.xe s
def tFn:TE:=fun _ H Q=>∀x,Q (.str x) H
def tFc(te t:TE):TE:=fun σ H Q=>te σ H fun v H1=>∃y,v=.str y∧y.length≤1048576∧t σ H1 Q
theorem nY{k:Nat}(hk:k≤8:=by decide):PF X k [] tFn:=fun acc c_ s σ H Q hl I h=>
 joinParts_nil (hsz:=by have:sizeLine=16777216:=rfl;omega) ⟨.str acc,H,I.tok _,⟨_,rfl⟩,h acc⟩
theorem iu{k:Nat}{e:Expr}{es:List Expr}{te t:TE}(he:PE X e te)(hr:PF X (k+1) es t)(hk:k≤7:=by decide)(hs:evalEach (e::es) X.env=eval e X.env::evalEach es X.env:=by rfl):PF X k (e::es) (tFc te t):=by
 intro acc c_ s σ H Q hl I h
 rw[hs]
 refine joinParts_cons (i6 (he c_ s σ H _ I h) fun u s1 iF=>?_)
 obtain⟨v,H1,I1,r1,y,ev,hy,q⟩:=iF
 subst ev
 obtain⟨t',rfl⟩:=r1
 have e1:(acc++y).length=acc.length+y.length:=strLen_append ..
 exact⟨by rw[e1];have:sizeLine=16777216:=rfl;omega,hr (acc++y) c_ s1 σ H1 Q (by rw[e1];omega) I1 q⟩
theorem lF{e1 e2:Expr}{es:List Expr}{t:TE}{pos:Pos}(h:PF X 0 (e1::e2::es) t):PE X (.JoinedStr (e1::e2::es) pos) t:=fun c_ s σ H Q I hq=>by
 rw[arm_eval_JoinedStr]
 exact h Str.empty c_ s σ H Q (by decide) I hq
def tFr(te:TE):TE:=fun σ H Q=>te σ H fun v H1=>∃x,v=.str x∧(reprText x).length≤1048576∧Q (.str (reprText x)) H1
theorem mO{e:Expr}{te:TE}{pos:Pos}(he:PE X e te):PE X (.FormattedValue e 114 none pos) (tFr te):=by
 intro c_ s σ H Q I h
 refine wpAny_FormattedValue_repr (i6 (he c_ s σ H _ I h) fun u s1 iF=>?_)
 obtain⟨v,H1,I1,r1,x,ev,hy,q⟩:=iF
 subst ev
 obtain⟨t',rfl⟩:=r1
 have hz:(reprText x).length≤sizeLine:=XI hy (by decide)
 refine wpAny_pyReprObj_str (hsz:=hz) ?_
 exact formatField_str (fun t'' tk=>⟨.str (reprText x),H1,I1.tok _,⟨_,rfl⟩,q⟩) hz
end
section
variable{X:Cx}{c_:Qqz}{σ:St}{H:Hp}{s:Shared}{tg:Expr}
def zv(X:Cx)(d:Addr):Prop:=∀o u,X.H₀ d≠some (.nq o u)
theorem JI{u:HO}(mu:Nx (some u)):(∀xs,u≠.tup xs)∧(∀o v,u≠.nq o v)∧(∀ps,u≠.LC ps)∧∀x,u≠.own x:=by
 cases u<;>first|exact False.elim mu|exact⟨(fun _ z=>nomatch z),(fun _ _ z=>nomatch z),(fun _ z=>nomatch z),(fun _ z=>nomatch z)⟩
theorem Inv.Pb{d:Addr}{u:HO}(I:Inv X c_ σ H s)(hd:H d=some u)(mu:Nx (some u)):zv X d:=fun o v z=>by
 have:=I.base.uP d o v z
 rw[hd] at this
 exact(JI mu).2.1 o v (aaA this)
theorem Inv.JJ{d:Addr}{u v:HO}(I:Inv X c_ σ H s)(hd:H d=some u)(nt:∀xs,u≠.tup xs)(nb:∀ps,u≠.LC ps)(no:∀x,u≠.own x)(nf:zv X d)(new:iY X.prog X.w (upd H d v) s.heap d v):Inv X c_ σ (upd H d v) s:=by
 have ne:∀b,H b=none→b≠d:=fun b e z=>by rw[z,hd] at e;cases e
 refine⟨I.ok,I.os,I.bare,⟨I.base.keep,I.base.slot,fun b o q n hx=>by rw[e_ (ne b (I.base.free b o q n hx))];exact I.base.free b o q n hx,I.base.there,fun b xs q=>?_,fun b o w q=>?_,fun b ps q=>?_⟩,I.loc,I.cell,by rw[e_ (ne _ I.free)];exact I.free,fun x c e=>by rw[e_ (ne _ (I.pH x c e))];exact I.pH x c e,fun p hp=>?_,fun b o e=>?_,I.len⟩
 ·have z:=I.base.rD b xs q
  have:b≠d:=fun y=>by rw[y,hd] at z;exact nt xs (aaA z)
  rw[e_ this];exact z
 ·have z:=I.base.uP b o w q
  have:b≠d:=fun y=>by rw[y] at q;exact nf o w q
  rw[e_ this];exact z
 ·obtain⟨m,z⟩:=I.base.yt b ps q
  have:b≠d:=fun y=>by rw[y,hd] at z;exact nb _ (aaA z)
  exact⟨m,by rw[e_ this];exact z⟩
 ·obtain⟨e1,e2,e3⟩:=I.pin p hp
  exact⟨e1,by rw[e_ (ne _ e2)];exact e2,e3⟩
 ·by_cases hb:b=d
  ·subst hb;rw[b_] at e;cases e;exact new
  ·rw[e_ hb] at e
   refine(I.iH b o e).yY (fun _ _ _ q=>q) (fun c q=>?_) fun c xs q=>?_
   ·have:c≠d:=fun y=>by rw[y,hd] at q;exact no _ (aaA q)
    rw[e_ this];exact q
   ·have:c≠d:=fun y=>by rw[y,hd] at q;exact nt _ (aaA q)
    rw[e_ this];exact q
theorem Inv.frozen{d:Addr}{u:HO}(I:Inv X c_ σ H s)(hd:H d=some u)(mu:Nx (some u)):∃o,s.heap.get? d=some o∧Inv X c_ σ (upd H d (.nq o u)) s:=by
 obtain⟨o,ho⟩:=(I.iH d u hd).ex
 obtain⟨m1,m2,m3,m4⟩:=JI mu
 refine⟨o,ho,I.JJ hd m1 m3 m4 (I.Pb hd mu) ⟨ho,?_⟩⟩
 refine(I.iH d u hd).yY (fun _ _ _ q=>q) (fun c q=>?_) fun c xs q=>?_
 ·have:c≠d:=fun y=>by rw[y,hd] at q;exact m4 _ (aaA q)
  rw[e_ this];exact q
 ·have:c≠d:=fun y=>by rw[y,hd] at q;exact m1 _ (aaA q)
  rw[e_ this];exact q
theorem Inv.wB{d:Addr}{o:Obj}{u:HO}(I:Inv X c_ σ H s)(hd:H d=some (.nq o u))(nf:zv X d):Inv X c_ σ (upd H d u) s:=by
 refine I.JJ hd (fun _ z=>by cases z) (fun _ z=>by cases z) (fun _ z=>by cases z) nf ?_
 obtain⟨_,q⟩:=(show iY X.prog X.w H s.heap d (.nq o u) from I.iH d _ hd)
 refine q.yY (fun _ _ _ q=>q) (fun c q=>?_) fun c xs q=>?_
 ·have:c≠d:=fun y=>by rw[y,hd] at q;cases q
  rw[e_ this];exact q
 ·have:c≠d:=fun y=>by rw[y,hd] at q;cases q
  rw[e_ this];exact q
def Sm(X:Cx)(t:TE):TE:=fun σ H Q=>t σ H fun v H2=>∃d o u,H2 d=some (.nq o u)∧zv X d∧Q v (upd H2 d u)
theorem GO{e:Expr}{t:TE}(h:PE X e t):PE X e (Sm X t):=fun c_ s σ H Q I hq=>
 i6 (h c_ s σ H _ I hq) fun v s' ⟨x,H',I',r,d,o,u,hd,nf,q⟩=>⟨x,_,I'.wB hd nf,r,q⟩
noncomputable def Ends.WH(X:Cx)(D:Ends):Ends where
 nx:=fun σ H2=>∃d o u,H2 d=some (.nq o u)∧zv X d∧D.nx σ (upd H2 d u)
 rt:=fun v H2=>∃d o u,H2 d=some (.nq o u)∧zv X d∧D.rt v (upd H2 d u)
 bk:=fun σ H2=>∃d o u,H2 d=some (.nq o u)∧zv X d∧D.bk σ (upd H2 d u)
 ct:=fun σ H2=>∃d o u,H2 d=some (.nq o u)∧zv X d∧D.ct σ (upd H2 d u)
theorem yN{st:Stmt}{t:TS}(h:PS X st t):PS X st (fun D σ H=>t (D.WH X) σ H):=fun c_ s σ H D I hq=>i6 (h c_ s σ H _ I hq) fun f s' q=>by
 cases f with
 | next=>obtain⟨σ',H',I',d,o,u,hd,nf,q⟩:=q;exact⟨σ',_,I'.wB hd nf,q⟩
 | brk=>obtain⟨σ',H',I',d,o,u,hd,nf,q⟩:=q;exact⟨σ',_,I'.wB hd nf,q⟩
 | cont=>obtain⟨σ',H',I',d,o,u,hd,nf,q⟩:=q;exact⟨σ',_,I'.wB hd nf,q⟩
 | ret v=>obtain⟨x,σ',H',I',r,d,o,u,hd,nf,q⟩:=q;exact⟨x,σ',_,I'.wB hd nf,r,q⟩
theorem Cs{H:Hp}{d p:Addr}{u f o:HO}(hd:H d=some u)(hp:p≠d):upd (upd (upd H d f) p o) d u=upd H p o:=by
 funext b
 by_cases h1:b=d
 ·subst h1;rw[b_,e_ (abK hp),hd]
 ·rw[e_ h1]
  by_cases h2:b=p
  ·subst h2;rw[b_,b_]
  ·rw[e_ h2,e_ h2,e_ h1]
theorem wC{H:Hp}{d:Addr}{u f:HO}(hd:H d=some u):upd (upd H d f) d u=H:=by
 rw[LR]
 funext b
 by_cases h1:b=d
 ·subst h1;rw[b_,hd]
 ·rw[e_ h1]
noncomputable def Q9(d:Addr)(o:Obj)(kvs:List (Key×V)):It:=
 ⟨fun i H=>H d=some (.nq o (.dK kvs))∧i<kvs.length,fun i H x H'=>H'=H∧∃k v,kvs[i]?=some (k,v)∧x=kV k,fun i H=>H d=some (.nq o (.dK kvs))∧kvs.length≤i⟩
theorem Mf{P:Program}{w:World}{k:Key}{u:Value}(h:(jg P w).is k u=true):RelV (kV k) u:=by
 rcases jt (show yX k u=true from h) with⟨i,t,rfl,rfl⟩|⟨x,t,rfl,rfl⟩
 ·exact⟨t,rfl⟩
 ·exact⟨t,rfl⟩
theorem JK{P:Program}{w:World}{h:Heap}{d:Addr}{o:Obj}{kvs:List (Key×V)}{es:Array DictEntry}{ep:Nat}(hd:o.data=.dict es ep)(q:iY P w H h d (.nq o (.dK kvs))):(d ==sysModules)=false∧kvs.length≤sizeLine∧∃vs,KV kvs vs∧h.DictAt (jg P w) d vs ep:=by
 obtain⟨ho,hz,hs,vs,kv,o',Rh,NX,qh,h1,h2,h3⟩:=q
 rw[ho] at qh;cases qh
 rw[hd] at h2;cases h2
 exact⟨hs,hz,vs,kv,o,es,ho,h1,hd,h3⟩
theorem KV.at{κ:Type}{kvs:List (κ×V)}{vs:List (κ×Value)}(r:KV kvs vs):∀{i:Nat} {k:κ} {u:Value},vs[i]?=some (k,u)→∃v,kvs[i]?=some (k,v)∧RelV v u:=by
 induction r with
 | nil=>intro i k u e;simp at e
 | cons f t ih=>
  intro i k u e
  cases i with
  | zero=>
   simp at e
   subst e
   exact⟨_,aa6 some (Prod.ext f.1 rfl),f.2⟩
  | succ i=>
   obtain⟨v,h1,h2⟩:=ih (by simpa using e)
   exact⟨v,by simpa using h1,h2⟩
theorem HE{P:Program}{w:World}{K:Qqy}(d it:Addr)(o:Obj)(es:Array DictEntry)(ep:Nat)(kvs:List (Key×V))(K_:o.data=.dict es ep):Turn P w K tg (Q9 d o kvs) [it] it (fun i h=>h.IsKeyIter it d i kvs.length ep) where
 mem:=by simp
 obj:=fun i h st b hb=>by
  have e:b=it:=by simpa using hb
  subst e
  obtain⟨o,e,c,d⟩:=st
  exact⟨o,e,fun v z=>by rw[d] at z;cases z⟩
 keep:=fun i h h' st k=>st.at fun o e=>k it (by simp) o e
 item:=by
  intro X hP hw hK hc i c_ s σ H E I hf st hg
  subst hP hw hK
  obtain⟨hd,hi⟩:=hg
  obtain⟨_,_,vs,kv,da⟩:=JK K_ (I.iH d _ hd)
  have hl:kvs.length=vs.length:=kv.length
  have Bq:i<vs.length:=by omega
  obtain⟨⟨k,u⟩,hx⟩:∃p,vs[i]?=some p:=⟨vs[i],by simp[Bq]⟩
  obtain⟨v,hv,_⟩:=kv.at hx
  obtain⟨f0,f1,f2,f3,f4,f5⟩:=hf it (by simp)
  rw[hl] at st
  refine wpAny_pyNext_dict_item st da hx fun key h' Qp Bm sb=>?_
  have I1:Inv X c_ σ H {s with heap:=h'}:=I.turned (t':=s.toks) (fun b o hb e=>(sb.2 b hb).trans e) f0 f1 f3 f4 f5
  obtain⟨o',e,c,dd⟩:=id Bm
  exact⟨key,rfl,y7 (s:={s with heap:=h'}) e c dd (by decide) ⟨kV k,H,I1,Mf Qp,⟨rfl,k,v,hv,rfl⟩,by rw[hl];exact Bm,fun b hb=>(hf b hb).1⟩⟩
 done:=by
  intro X hP hw hK hc i c_ s σ H E I hf st hg
  subst hP hw hK
  obtain⟨hd,hi⟩:=hg
  obtain⟨_,_,vs,kv,da⟩:=JK K_ (I.iH d _ hd)
  have hl:kvs.length=vs.length:=kv.length
  obtain⟨f0,f1,f2,f3,f4,f5⟩:=hf it (by simp)
  rw[hl] at st
  exact wpAny_pyNext_dict_end (I.ok.hd hc) st da (by simp;omega) fun h' eb=>⟨rfl,I.turned (t':=s.toks) (fun b o hb e=>eb b o hb e) f0 f1 f3 f4 f5⟩
 self:=fun _ _ _ _ _ st h=>wpAny_pyIter_keyiter st h
def Sn(X:Cx)(td:TE):TI:=fun σ H R=>td σ H fun x H1=>∃d kvs,x=.ref d∧H1 d=some (.dK kvs)∧∀o,zv X d→R (Q9 d o kvs) (upd H1 d (.nq o (.dK kvs)))
theorem Ct{l:Expr}{td:TE}(hl:PE X l td):PI X tg l (Sn X td):=by
 intro c_ s σ H R I h
 refine i6 (hl c_ s σ H _ I h) fun v s1 iF=>?_
 obtain⟨x,H1,I1,r1,q1⟩:=iF
 obtain⟨d,kvs,e,hd,q⟩:=q1
 subst e
 cases r1
 have nf:=I1.Pb hd True.intro
 obtain⟨o,ho,I2⟩:=I1.frozen hd True.intro
 obtain⟨_,hs,vs,kv,o',es,ep,qh,h1,h2,h3⟩:=(show iY X.prog X.w H1 s1.heap d (.dK kvs) from I1.iH d _ hd)
 rw[ho] at qh;cases qh
 refine wpAny_pyIter_dict (kvs:=vs) (ep:=ep) hs ⟨o,es,ho,h1,h2,h3⟩ ?_
 refine⟨s1.heap.objs.size,[s1.heap.objs.size],_,_,_,rfl,I2.kept (t':=s1.toks) fun b o e=>aab _ e,HE d _ o es ep kvs h2,⟨_,aav _ rfl,rfl,by rw[kv.length];rfl⟩,fun b hb=>?_,q o nf⟩
 have e:b=s1.heap.objs.size:=by simpa using hb
 subst e
 exact I2.y6 (WL _) (I2.iH.fresh (WL _))
theorem JL{d:Addr}{o:Obj}{kvs:List (Key×V)}{g:TG}{tb:TS}{D:Ends}{σ:St}{H:Hp}(Pv:Nat→St→Hp→Prop)(h0:Pv 0 σ H)(hl:∀i σ H,Pv i σ H→H d=some (.nq o (.dK kvs)))
  (hs:∀i k v σ H,kvs[i]?=some (k,v)→Pv i σ H→g (kV k) σ H fun σ2 H2=>tb {D with nx:=Pv (i+1),ct:=Pv (i+1),bk:=D.nx} σ2 H2) (hd:∀σ H,Pv kvs.length σ H→D.nx σ H) :
  ∃W:Nat→Nat→St→Hp→Prop,(∃m,W 0 m σ H)∧∀i m σ H,W i m σ H→
   ((Q9 d o kvs).stop i H∧D.nx σ H)∨((Q9 d o kvs).go i H∧∃N:St→Hp→Prop,(∀σ' H',N σ' H'→∃m',m'<m∧W (i+1) m' σ' H')∧∀x H',(Q9 d o kvs).Jg i H x H'→g x σ H' fun σ2 H2=>tb {D with nx:=N,ct:=N,bk:=D.nx} σ2 H2):=by
 refine⟨fun i m σ H=>m=kvs.length-i∧i≤kvs.length∧Pv i σ H,⟨kvs.length,by simp,aaz _,h0⟩,?_⟩
 rintro i m σ H ⟨rfl,hi,p⟩
 have q:=hl i σ H p
 by_cases jQ:i<kvs.length
 ·refine .inr ⟨⟨q,jQ⟩,Pv (i+1),fun σ' H' p'=>⟨kvs.length-(i+1),by omega,rfl,jQ,p'⟩,fun x H' y=>?_⟩
  obtain⟨e,k,v,y,rfl⟩:=y
  subst e
  exact hs i k v σ _ y p
 ·have e:i=kvs.length:=by omega
  subst e
  exact .inl ⟨⟨q,WL _⟩,hd σ H p⟩
theorem GQ{d:Addr}{o:Obj}{kvs:List (Key×V)}{g:TG}{tt:TT}{te:TE}{Q:List V→Hp→Prop}{σ:St}{H:Hp}(hn:kvs.length≤sizeLine)(Pv:Nat→List V→St→Hp→Prop)(h0:Pv 0 [] σ H)(hl:∀i ys σ H,Pv i ys σ H→H d=some (.nq o (.dK kvs))∧ys.length≤i)
  (hs:∀i k v ys σ H,kvs[i]?=some (k,v)→Pv i ys σ H→g (kV k) σ H fun σ2 H2=>tt σ2 H2 fun b H3=>if b=true then te σ2 H3 fun v H4=>Pv (i+1) (ys++[v]) σ2 H4 else Pv (i+1) ys σ2 H3)
  (hd:∀ys σ H,Pv kvs.length ys σ H→Q ys H):HD g tt te (Q9 d o kvs) Q σ H:=by
 refine⟨fun i m ys σ H=>m=kvs.length-i∧i≤kvs.length∧Pv i ys σ H,⟨kvs.length,by simp,aaz _,h0⟩,?_⟩
 rintro i m ys σ H ⟨rfl,hi,p⟩
 obtain⟨q,hy⟩:=hl i ys σ H p
 by_cases jQ:i<kvs.length
 ·refine .inr ⟨⟨q,jQ⟩,by omega,Pv (i+1),fun Rl σ' H' p'=>⟨kvs.length-(i+1),by omega,rfl,jQ,p'⟩,fun x H' y=>?_⟩
  obtain⟨e,k,v,y,rfl⟩:=y
  subst e
  exact hs i k v ys σ _ y p
 ·have e:i=kvs.length:=by omega
  subst e
  exact .inl ⟨⟨q,WL _⟩,by omega,hd ys σ H p⟩
theorem pM{α β:Type}{F:α→β→Prop}:∀{xs:List α} {ys:List β},xs.length=ys.length→(∀(i:Nat) a b,xs[i]?=some a→ys[i]?=some b→F a b)→Paired F xs ys
 | [],[],_,_=>.nil
 | [],_::_,e,_=>by simp at e
 | _::_,[],e,_=>by simp at e
 | x::xs,y::ys,e,h=>.cons (h 0 x y rfl rfl) (pM (by simpa using e) fun i a b ha hb=>h (i+1) a b (by simpa using ha) (by simpa using hb))
end
section
variable{X:Cx}{CX:GI}{k:Nat}{f C:Addr}{fd:FuncData}{ps:List Str}{sp:Sp}{yW:List V}{ds:List Value}{E:XK}{x m:Str}{p pos apos:Pos}{e o:Expr}{es:List Expr}{ta:TE}{t:TA}{σ₀:St}
end
section
variable{X:Cx}{c_ pn:Qqz}{σ:St}{H:Hp}{s:Shared}{E:Qqq}{e:Addr}
end
section
variable{X:Cx}{c_:Qqz}{σ:St}{H:Hp}{s:Shared}{M:Model}{A:Around}{E:Qqq}
end
section
variable{P:Program}{w:World}{K:Qqy}{mg:Qqx}{base:Heap}
end
section
variable{X:Cx}{k:Nat}{f:Addr}{fd:FuncData}{ps:List Str}{sp:Sp}{x:Str}{p pos:Pos}{e:Expr}{es:List Expr}{t:TA}
end
open PySem PySem.Spec PyProof.Rows PySem.W PySem.Builtin PySem.Builtin.ObjectAttr PySem.Builtin.Getset_descriptor
section
variable{K:Qqy}{e C:Addr}{prog:Program}{w:World}{A:Around}{E:Qqq}{h:Heap}{g:Array GenState}{d:Drawn}{t:Nat}{os:OsState}
end
theorem jA{xs:List V}(h:xs.length≤15:=by simp):xs.length≤sizeLine:=XI h (by decide)
theorem ic{α:Type}{xs:List α}{i:Int}{j:Nat}{v:α}(e:i=(j:Int))(h:xs[j]?=some v):Fo xs i=some v:=by subst e;exact L1 h
theorem zw{n:Nat}{i:Int}{j:Nat}(e:i=(j:Int))(h:j<n):Jn n i=some j:=by
 subst e
 unfold Jn
 rw[aar (by omega),aar (by omega)]
 simp
theorem gj.upd{H H':Hp}{p:Addr}{o:HO}(s:gj H H')(h:H p=none):gj H (L2.upd H' p o):=fun b u e=>by rw[e_ (gh e h)];exact s b u e
theorem gj.new{H H':Hp}{p:Addr}{o:HO}(s:gj H H')(h:H' p=none):gj H (L2.upd H' p o):=s.upd (s.free h)
def WJ(t:TS):TS:=fun D σ H=>∃J:St→Hp→Prop,t {D with nx:=J} σ H∧∀σ' H',J σ' H'→D.nx σ' H'
theorem SP.nx{X:Cx}{c_:Qqz}{D:Ends}{J:St→Hp→Prop}{f:Flow}{s:Shared}(hJ:∀σ' H',J σ' H'→D.nx σ' H')(h:SP X c_ {D with nx:=J} f s):SP X c_ D f s:=by
 cases f with
 | next=>obtain⟨σ,H,I,q⟩:=h;exact⟨σ,H,I,hJ _ _ q⟩
 | brk=>exact h
 | cont=>exact h
 | ret u=>exact h
theorem qo{X:Cx}{st:Stmt}{t:TS}(h:PS X st t):PS X st (WJ t):=fun c_ s σ H D I ⟨J,h1,h2⟩=>i6 (h c_ s σ H _ I h1) fun f s' q=>SP.nx h2 q
theorem rO{α:Type}{xs:List α}{i:Int}(h0:0≤i)(h:i<(xs.length:Int)):∃v,Fo xs i=some v∧xs[i.toNat]?=some v:=by
 have hi:i.toNat<xs.length:=by omega
 exact⟨xs[i.toNat],ic (j:=i.toNat) (by omega) (TZ hi),TZ hi⟩
theorem xy{b:Bool}{A B:Prop}(e:b=false)(h:B):if b=true then A else B:=by subst e;exact i_ h
theorem GR{b:Bool}{A B:Prop}(e:b=true)(h:A):if b=true then A else B:=by subst e;exact kD h
theorem mod_lt(a b:Int)(h:0<b):0≤a%b∧a%b<b:=⟨Int.emod_nonneg a (by omega),Int.emod_lt_of_pos a h⟩
noncomputable abbrev gp(l:List Str):List V:=l.map V.str
theorem jv(xs:List Str)(x:Str):gp xs++[V.str x]=gp (xs++[x]):=by unfold gp;rw[aat];rfl
theorem nZ(x y:List Str):gp x++gp y=gp (x++y):=by unfold gp;rw[aat]
theorem oF{l:List Str}{j:Nat}{x:Str}(h:l[j]?=some x):(gp l)[j]?=some (V.str x):=by rw[Z4,h];rfl
theorem mv{l:List Str}{j:Nat}{v:V}(h:(gp l)[j]?=some v):∃x,l[j]?=some x∧v=V.str x:=by
 rw[Z4] at h
 cases e:l[j]? with
 | none=>rw[e] at h;cases h
 | some x=>rw[e] at h;cases h;exact⟨x,rfl,rfl⟩
theorem Q_{A:Around}{k:Nat}(hr:kE k A){n:Nat}(h:n≤60:=by decide):A.units+n+1<cLine:=by have:=hr.units;omega
theorem ie{H:Hp}{a q:Addr}{o u:HO}(hq:H q=none)(h:H a=some o):upd H q u a=some o:=by rw[e_ (gh h hq)];exact h
theorem LD{t0 t1:TS}{D:Ends}{σ:St}{H:Hp}(h:let v1:=t1;gB t0 v1 D σ H):gB t0 t1 D σ H:=h
theorem DO{t0 t1 t2:TS}{D:Ends}{σ:St}{H:Hp}(h:let v2:=t2;let v1:=gB t1 v2;gB t0 v1 D σ H):gB t0 (gB t1 t2) D σ H:=h
theorem NJ{t0 t1 t2 t3:TS}{D:Ends}{σ:St}{H:Hp}(h:let v3:=t3;let v2:=gB t2 v3;let v1:=gB t1 v2;gB t0 v1 D σ H):gB t0 (gB t1 (gB t2 t3)) D σ H:=h
theorem Pc{t0 t1 t2 t3 t4:TS}{D:Ends}{σ:St}{H:Hp}(h:let v4:=t4;let v3:=gB t3 v4;let v2:=gB t2 v3;let v1:=gB t1 v2;gB t0 v1 D σ H):gB t0 (gB t1 (gB t2 (gB t3 t4))) D σ H:=h
theorem So{t0 t1 t2 t3 t4 t5:TS}{D:Ends}{σ:St}{H:Hp}(h:let v5:=t5;let v4:=gB t4 v5;let v3:=gB t3 v4;let v2:=gB t2 v3;let v1:=gB t1 v2;gB t0 v1 D σ H):gB t0 (gB t1 (gB t2 (gB t3 (gB t4 t5)))) D σ H:=h
theorem Z5{t0 t1 t2 t3 t4 t5 t6:TS}{D:Ends}{σ:St}{H:Hp}(h:let v6:=t6;let v5:=gB t5 v6;let v4:=gB t4 v5;let v3:=gB t3 v4;let v2:=gB t2 v3;let v1:=gB t1 v2;gB t0 v1 D σ H):gB t0 (gB t1 (gB t2 (gB t3 (gB t4 (gB t5 t6))))) D σ H:=h
theorem sl9{t0 t1 t2 t3 t4 t5 t6 t7 t8:TS}{D:Ends}{σ:St}{H:Hp}(h:let v8:=t8;let v7:=gB t7 v8;let v6:=gB t6 v7;let v5:=gB t5 v6;let v4:=gB t4 v5;let v3:=gB t3 v4;let v2:=gB t2 v3;let v1:=gB t1 v2;gB t0 v1 D σ H):gB t0 (gB t1 (gB t2 (gB t3 (gB t4 (gB t5 (gB t6 (gB t7 t8))))))) D σ H:=h
theorem Sq{t0 t1 t2 t3 t4 t5 t6 t7 t8 t9 N2 N3 N4 N5 N6:TS}{D:Ends}{σ:St}{H:Hp}(h:let La:=N6;let Nf:=gB N5 La;let TF:=gB N4 Nf;let v11:=gB N3 TF;let v10:=gB N2 v11;let v9:=gB t9 v10;let v8:=gB t8 v9;let v7:=gB t7 v8;let v6:=gB t6 v7;let v5:=gB t5 v6;let v4:=gB t4 v5;let v3:=gB t3 v4;let v2:=gB t2 v3;let v1:=gB t1 v2;gB t0 v1 D σ H):gB t0 (gB t1 (gB t2 (gB t3 (gB t4 (gB t5 (gB t6 (gB t7 (gB t8 (gB t9 (gB N2 (gB N3 (gB N4 (gB N5 N6))))))))))))) D σ H:=h
theorem Pd{t0 t1 t2 t3 t4 t5 t6 t7 t8 t9 N2 N3 N4 N5 N6 TH:TS}{D:Ends}{σ:St}{H:Hp}(h:let Xr:=TH;let La:=gB N6 Xr;let Nf:=gB N5 La;let TF:=gB N4 Nf;let v11:=gB N3 TF;let v10:=gB N2 v11;let v9:=gB t9 v10;let v8:=gB t8 v9;let v7:=gB t7 v8;let v6:=gB t6 v7;let v5:=gB t5 v6;let v4:=gB t4 v5;let v3:=gB t3 v4;let v2:=gB t2 v3;let v1:=gB t1 v2;gB t0 v1 D σ H):gB t0 (gB t1 (gB t2 (gB t3 (gB t4 (gB t5 (gB t6 (gB t7 (gB t8 (gB t9 (gB N2 (gB N3 (gB N4 (gB N5 (gB N6 TH)))))))))))))) D σ H:=h
theorem JM{w:TI}{g:TG}{b u:TS}{D:Ends}{σ:St}{H:Hp}(h:let v:=b;gB (ON w g v) u D σ H):gB (ON w g b) u D σ H:=h
noncomputable abbrev rr(a:Addr):Option V:=some (.ref a)
noncomputable abbrev rs(x:Str):Option V:=some (.str x)
noncomputable abbrev ri(i:Int):Option V:=some (.int i)
section
variable{X:Cx}{tg:Expr}
noncomputable def Ra(x:Str):It:=⟨fun i _=>i<x.length,fun i H v H'=>H'=H∧∃c,x.cps[i]?=some c∧v=.str ⟨#[c]⟩,fun i _=>i=x.length⟩
theorem BI{P:Program}{w:World}{K:PySem.W.Frag}(it:Addr)(ty:String)(x:Str)(t:Tok)(To:["enumerate","zip","dict_itemiterator","dict_reverseitemiterator","odict_iterator","itertools.zip_longest","itertools.pairwise"].contains ty=false)
  (W:∀A:Around,A.handled=none→Walks P w A it [it] [it] x.cps.size (SignAt x) (fun i h=>h.IsStrIter it ty x t i))
  (self:∀(A:Around)(i:Nat)(s:Shared)(Q:Qqq)(E:Qqq),s.heap.IsStrIter it ty x t i→Q (.ref it) s→wpAny (model P w) A (pyIter (.ref it)) Q E s):Turn P w K tg (Ra x) [it] it (fun i h=>h.IsStrIter it ty x t i) where
 mem:=by simp
 obj:=fun i h st b hb=>by
  have e:b=it:=by simpa using hb
  subst e
  obtain⟨o,e,c,d⟩:=st
  exact⟨o,e,fun v z=>by rw[d] at z;cases z⟩
 keep:=fun i h h' ⟨o,ho,r⟩ k=>⟨o,k it (by simp) o ho,r⟩
 item:=by
  intro X hP hw hK hc i c_ s σ H E I hf st hg
  subst hP hw hK
  obtain⟨f0,f1,f2,f3,f4,f5⟩:=hf it (by simp)
  refine(W X.A (I.ok.hd hc)).item i s _ _ hg st fun v h' tk hv Bm kk=>?_
  obtain⟨c,t',B4,rfl⟩:=hv
  have I1:Inv X c_ σ H {s with heap:=h',toks:=tk}:=I.turned (fun b o hb e=>kk b o (by simpa using hb) e) f0 f1 f3 f4 f5
  obtain⟨o',e,cc,dd⟩:=id Bm
  exact⟨_,rfl,y7 (s:={s with heap:=h',toks:=tk}) e cc dd To ⟨.str ⟨#[c]⟩,H,I1,⟨t',rfl⟩,⟨rfl,c,B4,rfl⟩,Bm,fun b hb=>(hf b hb).1⟩⟩
 done:=by
  intro X hP hw hK hc i c_ s σ H E I hf st hg
  subst hP hw hK
  obtain⟨f0,f1,f2,f3,f4,f5⟩:=hf it (by simp)
  have e:i=x.cps.size:=hg
  subst e
  exact(W X.A (I.ok.hd hc)).done s _ _ st fun h' tk kk=>⟨rfl,I.turned (fun b o hb e=>kk b o (by simpa using hb) e) f0 f1 f3 f4 f5⟩
 self:=self
def Sr(te:TE):TI:=fun σ H R=>te σ H fun v H1=>∃x,v=.str x∧R (Ra x) H1
theorem Pe{l:Expr}{te:TE}(hl:PE X l te):PI X tg l (Sr te):=by
 intro c_ s σ H R I h
 refine i6 (hl c_ s σ H _ I h) fun v s1 iF=>?_
 obtain⟨y,H1,I1,r1,x,e,q⟩:=iF
 subst e
 obtain⟨t,rfl⟩:=r1
 have fin:∀(ty:String)(T:Turn X.prog X.w X.K tg (Ra x) [s1.heap.objs.size] s1.heap.objs.size (fun i h=>h.IsStrIter s1.heap.objs.size ty x t i)),
   Wg X c_ σ tg R (.ref s1.heap.objs.size) {s1 with heap:=s1.heap.push {cls:=.type ty,data:=.fields #[.str x t,.int 0 0]}}:=fun ty T=>by
  refine⟨s1.heap.objs.size,[s1.heap.objs.size],_,_,H1,rfl,I1.kept (t':=s1.toks) fun b o e=>aab _ e,T,⟨_,aav _ rfl,rfl,rfl⟩,fun b hb=>?_,q⟩
  have e:b=s1.heap.objs.size:=by simpa using hb
  subst e
  exact I1.y6 (WL _) (I1.iH.fresh (WL _))
 cases ha:x.cps.all (·<128)
 ·exact wpAny_pyIter_wide ha (fin _ (BI _ _ x t (by decide) (fun A hh=>Walks.strWide hh _ x t) fun _ _ _ _ _ st h=>wpAny_pyIter_striter_wide st h))
 ·exact wpAny_pyIter_ascii ha (fin _ (BI _ _ x t (by decide) (fun A hh=>Walks.strAscii hh _ x t) fun _ _ _ _ _ st h=>wpAny_pyIter_striter_ascii st h))
theorem JN{x:Str}{g:TG}{tb:TS}{D:Ends}{σ:St}{H:Hp}(Pv:Nat→St→Hp→Prop)(h0:Pv 0 σ H)
  (hs:∀i c σ H,x.cps[i]?=some c→Pv i σ H→g (.str ⟨#[c]⟩) σ H fun σ2 H2=>tb {D with nx:=Pv (i+1),ct:=Pv (i+1),bk:=D.nx} σ2 H2) (hd:∀σ H,Pv x.length σ H→D.nx σ H) :
  ∃W:Nat→Nat→St→Hp→Prop,(∃m,W 0 m σ H)∧∀i m σ H,W i m σ H→
   ((Ra x).stop i H∧D.nx σ H)∨((Ra x).go i H∧∃N:St→Hp→Prop,(∀σ' H',N σ' H'→∃m',m'<m∧W (i+1) m' σ' H')∧∀v H',(Ra x).Jg i H v H'→g v σ H' fun σ2 H2=>tb {D with nx:=N,ct:=N,bk:=D.nx} σ2 H2):=by
 refine⟨fun i m σ H=>m=x.length-i∧i≤x.length∧Pv i σ H,⟨x.length,by simp,aaz _,h0⟩,?_⟩
 rintro i m σ H ⟨rfl,hi,p⟩
 by_cases jQ:i<x.length
 ·refine .inr ⟨jQ,Pv (i+1),fun σ' H' p'=>⟨x.length-(i+1),by omega,rfl,jQ,p'⟩,fun v H' y=>?_⟩
  obtain⟨e,c,hc,rfl⟩:=y
  subst e
  exact hs i c σ _ hc p
 ·have e:i=x.length:=by omega
  subst e
  exact .inl ⟨rfl,hd σ H p⟩
def tFi(te:TE):TE:=fun σ H Q=>te σ H fun v H1=>∃i:Int,v=.int i∧i.natAbs.log2<1920∧Q (.str (toString i)) H1
theorem JO{e:Expr}{te:TE}{pos:Pos}(he:PE X e te):PE X (.FormattedValue e (-1) none pos) (tFi te):=by
 intro c_ s σ H Q I h
 refine FormattedValue_plain (i6 (he c_ s σ H _ I h) fun u s1 iF=>?_)
 obtain⟨v,H1,I1,r1,i,ev,hy,q⟩:=iF
 subst ev
 obtain⟨t',rfl⟩:=r1
 exact formatField_int_small hy ⟨.str (toString i),H1,I1.tok _,⟨_,rfl⟩,q⟩
end
section
variable{X:Cx}{tg:Expr}
noncomputable def JP(K:Qqy)(a:Addr)(n:Nat):It:=
 ⟨fun i H=>i<n∧∃xs,gH K H a xs∧xs.length=n,fun i H x H'=>H'=H∧∀xs,gH K H a xs→xs[n-1-i]?=some x,fun i _=>i=n⟩
theorem JQ{P:Program}{w:World}{K:Qqy}(a it:Addr)(n:Nat):Turn P w K tg (JP K a n) [it] it (fun i h=>h.IsRevIter it a ((n:Int)-1-(i:Nat))) where
 mem:=by simp
 obj:=fun i h st b hb=>by
  have e:b=it:=by simpa using hb
  subst e
  obtain⟨o,e,c,d⟩:=st
  exact⟨o,e,fun v z=>by rw[d] at z;cases z⟩
 keep:=fun i h h' st k=>st.at fun o e=>k it (by simp) o e
 item:=by
  intro X hP hw hK hc i c_ s σ H E I hf st hg
  subst hP hw hK
  obtain⟨hi,xs,hq,hl⟩:=hg
  obtain⟨h_,rv,p,hz⟩:=I.list hq
  have hx:xs[n-1-i]?=some xs[n-1-i]:=TZ (by omega)
  obtain⟨u,hu,ru⟩:=rv.get hx
  obtain⟨f0,f1,f2,f3,f4,f5⟩:=hf it (by simp)
  have e1:(n:Int)-1-(i:Nat)=((n-1-i:Nat):Int):=by omega
  rw[e1] at st
  refine wpAny_pyNext_rev_item st p.isList (x:=u) (by simpa using hu) fun h' Bm sb=>?_
  have e2:((n-1-i:Nat):Int)-1=(n:Int)-1-((i+1:Nat):Int):=by omega
  rw[e2] at Bm
  have I1:Inv X c_ σ H {s with heap:=h'}:=I.turned (t':=s.toks) (fun b o hb e=>(sb.2 b hb).trans e) f0 f1 f3 f4 f5
  obtain⟨o,e,c,d⟩:=id Bm
  exact⟨u,rfl,y7 (s:={s with heap:=h'}) e c d (by decide) ⟨_,H,I1,ru,⟨rfl,fun ys hy=>by rw[I.pI hy hq];exact hx⟩,Bm,fun b hb=>(hf b hb).1⟩⟩
 done:=by
  intro X hP hw hK hc i c_ s σ H E I hf st hg
  subst hP hw hK
  have hg:i=n:=hg
  subst hg
  obtain⟨f0,f1,f2,f3,f4,f5⟩:=hf it (by simp)
  have e1:(i:Int)-1-(i:Nat)=-1:=by omega
  rw[e1] at st
  exact wpAny_pyNext_rev_end (I.ok.hd hc) st fun h' eb=>⟨rfl,I.turned (t':=s.toks) (fun b o hb e=>eb b o hb e) f0 f1 f3 f4 f5⟩
 self:=fun _ _ _ _ _ st h=>wpAny_pyIter_revIter st h
def Ss(K:Qqy)(ta:TA):TI:=fun σ H R=>ta σ H fun vs H1=>∃a xs,vs=[.ref a]∧gH K H1 a xs∧R (JP K a xs.length) H1
theorem Mg{a:Expr}{ta:TA}{p pos:Pos}(hg:Gl X "reversed")(hm:X.mg "reversed"=none)(ha:PA X [a] ta)(hs:starEach [a] X.env=[(false,eval a X.env)]:=by rfl):PI X tg (.Call (.Name "reversed" p) [a] [] pos) (Ss X.K ta):=by
 intro c_ s σ H R I h
 refine Call_ (nN I hg hm boot_reversed (aaZ (i6 (ha pos c_ s σ H _ I h) fun us s1 iF=>?_) hs rfl))
 obtain⟨vs,H1,I1,r1,q1⟩:=iF
 obtain⟨l,xs,rfl,hq,q⟩:=q1
 obtain⟨u,rfl,ru⟩:=vals1 r1
 cases (show u=Value.ref l from ru)
 obtain⟨h_,rv,pp,hz⟩:=I1.list hq
 have hl:=rv.length
 refine call_reversed_list pp.isList ?_
 have I2:Inv X c_ σ H1 {s1 with heap:=s1.heap.push (revObj l ((h_.toArray.size:Int)-1))}:=I1.kept (t':=s1.toks) fun b o e=>aab _ e
 have st:(s1.heap.push (revObj l ((h_.toArray.size:Int)-1))).IsRevIter s1.heap.objs.size l ((xs.length:Int)-1-((0:Nat):Int)):=by
  have e1:(xs.length:Int)-1-((0:Nat):Int)=(h_.toArray.size:Int)-1:=by rw[hl];simp
  rw[e1]
  exact⟨_,aav _ rfl,rfl,rfl⟩
 refine wpAny_pyIter_revIter st ?_
 refine⟨s1.heap.objs.size,[s1.heap.objs.size],_,_,H1,rfl,I2,JQ l _ xs.length,st,fun b hb=>?_,q⟩
 have e:b=s1.heap.objs.size:=by simpa using hb
 subst e
 exact I1.y6 (WL _) (I1.iH.fresh (WL _))
theorem Mh{K:PySem.W.Frag}{a:Addr}{xs:List V}{g:TG}{tb:TS}{D:Ends}{σ:St}{H:Hp}(Pv:Nat→St→Hp→Prop)(h0:Pv 0 σ H)(hl:∀i σ H,i≤xs.length→Pv i σ H→gH K H a xs)
  (hs:∀i x σ H,xs.reverse[i]?=some x→Pv i σ H→g x σ H fun σ2 H2=>tb {D with nx:=Pv (i+1),ct:=Pv (i+1),bk:=D.nx} σ2 H2) (hd:∀σ H,Pv xs.length σ H→D.nx σ H) :
  ∃W:Nat→Nat→St→Hp→Prop,(∃m,W 0 m σ H)∧∀i m σ H,W i m σ H→
   ((JP K a xs.length).stop i H∧D.nx σ H)∨((JP K a xs.length).go i H∧∃N:St→Hp→Prop,(∀σ' H',N σ' H'→∃m',m'<m∧W (i+1) m' σ' H')∧∀x H',(JP K a xs.length).Jg i H x H'→g x σ H' fun σ2 H2=>tb {D with nx:=N,ct:=N,bk:=D.nx} σ2 H2):=by
 refine⟨fun i m σ H=>m=xs.length-i∧i≤xs.length∧Pv i σ H,⟨xs.length,by simp,aaz _,h0⟩,?_⟩
 rintro i m σ H ⟨rfl,hi,p⟩
 have q:=hl i σ H hi p
 by_cases jQ:i<xs.length
 ·refine .inr ⟨⟨jQ,xs,q,rfl⟩,Pv (i+1),fun σ' H' p'=>⟨xs.length-(i+1),by omega,rfl,jQ,p'⟩,fun x H' y=>?_⟩
  obtain⟨e,y⟩:=y
  subst e
  refine hs i x σ _ ?_ p
  rw[List.getElem?_reverse jQ]
  exact y xs q
 ·have e:i=xs.length:=by omega
  subst e
  exact .inl ⟨rfl,hd σ H p⟩
theorem JR{prog:Program}{w:World}{A:Around}{E:Qqq}{s:Shared}{r:Addr}{Q:Bool→Shared→Prop}(hT:s.TypeIs (.ref r) "list_reverseiterator")(h:Q false s):wpAny (model prog w) A (Builtin.List.listLengthHint (.ref r)) Q E s:=by
 have f1:typeLookup (.type "list_reverseiterator") "__len__"=pure none:=by rw[typeLookup_type,builtinLookup_eq_fast];kernel_rfl
 have f2:typeLookup (.type "list_reverseiterator") "__length_hint__"=pure (some (.builtin "list_reverseiterator.__length_hint__")):=by rw[typeLookup_type,builtinLookup_eq_fast];kernel_rfl
 unfold Builtin.List.listLengthHint
 refine T1 (aca hT f1 ?_)
 wp_delta
 refine acb (fun Hh=>absurd Hh (by decide)) (fun _=>?_)
 refine acb (fun Hh=>absurd Hh (by decide)) (fun _=>?_)
 refine T1 (aca hT f2 ?_)
 generalize Vj:("list_reverseiterator.__length_hint__":String)=id0
 wp_delta
 rw[show splitId id0=some ("list_reverseiterator","__length_hint__") from by subst Vj;decide+kernel]
 subst Vj
 refine T1 (wpAny_isInstance (T:="list_reverseiterator") (b:=true) hT (by rw[isSubtype_type];kernel_rfl) ?_)
 refine acb (fun Hh=>absurd Hh (by decide)) (fun _=>?_)
 refine acb (fun _=>?_) (fun Hh=>absurd (by decide+kernel) Hh)
 refine acb (fun Hh=>absurd Hh (by decide)) (fun _=>?_)
 exact aag h
theorem HF{prog:Program}{w:World}{A:Around}{E:Qqq}{s:Shared}{T:String}{r d:Addr}{n:Nat}{P:Nat→Value→Prop}{St:Nat→Heap→Prop}{Q:Qqq}
  (W:Walks prog w A.in1.in1 r [r,d] [r] n P St) (hT:∀h:Heap,St 0 h→∃o,h.get? r=some o∧o.cls=.type T) (hl:(Value.type T ==Value.type "list")=false) (ht:(Value.type T ==Value.type "tuple")=false)
  (hint:∀(A:Around)(E:Qqq)(s:Shared)(Q:Bool→Shared→Prop),St 0 s.heap→Q false s→wpAny (model prog w) A (Builtin.List.listLengthHint (.ref r)) Q E s)
  (self:∀(A:Around)(E:Qqq)(s:Shared)(Q:Qqq),St 0 s.heap→Q (.ref r) s→wpAny (model prog w) A (pyIter (.ref r)) Q E s)
  (hd:d<s.heap.objs.size) (st:St 0 s.heap) (hn:n≤sizeLine)
  (hQ:∀h' tk Ng c',(∀b o,b≠r→s.heap.get? b=some o→h'.get? b=some o)→h'.get? s.heap.objs.size=some {cls:=.type "list",dict:=none,data:=.seq Ng c',slots:=#[]}→ItemsOf P Ng n→Q (.ref s.heap.objs.size) {s with heap:=h',toks:=tk}) :
  wpAny (model prog w) A (call (.type "list") [.ref r]) Q E s:=by
 obtain⟨or,hor,Xs⟩:=hT _ st
 have DQ:r<s.heap.objs.size:=aau hor
 refine callType_codes (Q₁:=fun obj s₁=>obj=.ref s.heap.objs.size∧s₁={s with heap:=s.heap.push {cls:=.type "list",data:=.seq #[]}}) PySem.F.called_list (PySem.F.typeCall_list_1 _) PySem.F.entry_list_init
  (code_list_new _ ⟨rfl,rfl⟩) fun obj s₁ h₁=>?_
 obtain⟨rfl,rfl⟩:=h₁
 have hS:(s.heap.push {cls:=.type "list",data:=.seq #[]}).get? s.heap.objs.size=some {cls:=.type "list",data:=.seq #[]}:=aav _ rfl
 have Xt:s.heap.objs.size≠r:=Nat.ne_of_gt DQ
 have hSd:s.heap.objs.size≠d:=Nat.ne_of_gt hd
 refine⟨⟨_,hS,rfl⟩,PySem.F.args_list_init_2 _ _,?_⟩
 show wpAny _ _ (do let old ←Builtin.List.listItems (.ref s.heap.objs.size);Builtin.List.listUpdate (.ref s.heap.objs.size) (fun _=>#[]);letGo old.toList.reverse;Builtin.List.listExtendWith (.ref s.heap.objs.size) (.ref r) .none) _ _ _
 refine T1 ?_
 unfold Builtin.List.listItems
 refine T1 (wpAny_seqItems hS rfl (aag ?_))
 show wpAny _ _ (updateSeq s.heap.objs.size (fun _=>#[]) >>= fun _=>letGo (#[]:Array Value).toList.reverse >>= fun _=>Builtin.List.listExtendWith (.ref s.heap.objs.size) (.ref r) .none) _ _ _
 refine T1 (acd hS rfl ?_)
 have Vk:=aa4 (Obj.mapSeq (fun _=>(#[]:Array Value))) hS rfl
 have Vl:∀b o,s.heap.get? b=some o→((s.heap.push {cls:=.type "list",data:=.seq #[]}).update s.heap.objs.size (Obj.mapSeq (fun _=>(#[]:Array Value)))).get? b=some o:=
  fun b o e=>(aa1 _ _ (Nat.ne_of_gt (aau e))).trans (aab _ e)
 refine T1 (wpAny_letGo ?_)
 generalize (s.heap.push {cls:=.type "list",data:=.seq #[]}).update s.heap.objs.size (Obj.mapSeq (fun _=>(#[]:Array Value)))=h2 at Vk Vl
 have Bo:St 0 h2:=W.frame 0 _ _ st fun b _ o e=>Vl b o e
 have key:∀(h:Heap)(c₁ tk:Nat),St 0 h→(∀b o,s.heap.get? b=some o→h.get? b=some o)→
   h.get? s.heap.objs.size=some {cls:=.type "list",data:=.seq #[] c₁}→codeAny (model prog w) A.in1 (.builtin "list.extend.loop" ⟨[.ref s.heap.objs.size,.ref r,.none],[]⟩)
    (fun r s'=>match r with|.ok (.ret v)=>v=.none∧Q (.ref s.heap.objs.size) s'|.ok _=>False|.error e=>E e s') {s with heap:=h,toks:=tk}:=by
  intro h c₁ tk rE hk hS₁
  refine codeAny_extend_loopS W.toS hn s.heap.objs.size (by simp only [Z8,ach,or_false,not_or];exact⟨Xt,hSd⟩) .none n 0 _ #[] c₁ rfl (aaz _) rE hS₁ (ItemsOf.nil _) fun s' Ng c' hm LJ vY=>?_
  rw[Moved.eq_with hm]
  refine⟨rfl,hQ s'.heap s'.toks Ng c' (fun b o hb e=>hm.heap b o (fun rF=>?_) (hk b o e)) LJ vY⟩
  rcases Z8.mp rF with e'|rF
  ·exact absurd (aau e) (by rw[e'];exact abg _)
  ·exact hb (WG.mp rF)
 unfold Builtin.List.listExtendWith
 refine T1 (wpAny_typeOf (T:=T) (hT _ Bo) ?_)
 have h1:Builtin.List.listSameRef (.ref s.heap.objs.size) (.ref r)=false:=by simp[Builtin.List.listSameRef,Xt]
 simp only [h1,hl,ht,Bool.or_false,aaV,abS]
 refine T1 (self _ _ _ _ Bo ?_)
 refine T1 (abD (hint _ _ _ _ Bo ?_))
 refine acb (fun _=>?_) (fun _=>aag ⟨plainId_quiet PySem.F.plain_extend_loop _,key _ _ _ Bo Vl Vk⟩)
 refine T1 (wpAny_rule ?_)
 refine T1 ?_
 show wpAny _ _ (updateSeq s.heap.objs.size (·.push .none) >>= fun _=>updateSeq s.heap.objs.size (·.pop)) _ _ _
 refine T1 (acd Vk rfl ?_)
 have hS₃:=aa4 (Obj.mapSeq (·.push Value.none)) Vk rfl
 refine acd (hz:=by seq_fits) hS₃ rfl ?_
 have hS₄:=aa4 (Obj.mapSeq (·.pop)) hS₃ rfl
 have TJ:∀b o,b≠s.heap.objs.size→h2.get? b=some o→((h2.update s.heap.objs.size (Obj.mapSeq (·.push Value.none))).update s.heap.objs.size (Obj.mapSeq (·.pop))).get? b=some o:=fun b o hb e=>
  (aa1 _ _ (abK hb)).trans ((aa1 _ _ (abK hb)).trans e)
 refine aag ⟨plainId_quiet PySem.F.plain_extend_loop _,key _ _ _ (W.frame 0 _ _ Bo fun b hb o e=>TJ b o (fun z=>?_) e) (fun b o e=>TJ b o (aaU (aau e)) (Vl b o e)) hS₄⟩
 subst z
 simp only [Z8,ach,or_false] at hb
 rcases hb with z|z
 ·exact Xt z
 ·exact hSd z
def JS(K:Qqy)(ta:TA):TE:=fun σ H Q=>ta σ H fun vs H1=>∃a xs,vs=[.ref a]∧gH K H1 a xs∧∀p,H1 p=none→Q (.ref p) (upd H1 p (.lst xs.reverse))
theorem FK{a:Expr}{ta:TA}{p1 p2 Xu Nh:Pos}(hc:X.calm=true)(Rm:Gl X "list")(Xv:X.mg "list"=none)(hg:Gl X "reversed")(hm:X.mg "reversed"=none)(ha:PA X [a] ta)(hs:starEach [a] X.env=[(false,eval a X.env)]:=by rfl)
  (Xw:starEach [.Call (.Name "reversed" p2) [a] [] Nh] X.env=[(false,eval (.Call (.Name "reversed" p2) [a] [] Nh) X.env)]:=by rfl):PE X (.Call (.Name "list" p1) [.Call (.Name "reversed" p2) [a] [] Nh] [] Xu) (JS X.K ta):=by
 intro c_ s σ H Q I h
 refine Call_ (nN I Rm Xv boot_list (aaZ ?_ Xw rfl))
 rw[Xw]
 refine abj ?_
 refine Call_ (nN I hg hm boot_reversed (aaZ (i6 (ha Nh c_ s σ H _ I h) fun us s1 iF=>?_) hs rfl))
 obtain⟨vs,H1,I1,r1,q1⟩:=iF
 obtain⟨l,xs,rfl,hq,q⟩:=q1
 obtain⟨u,rfl,ru⟩:=vals1 r1
 cases (show u=Value.ref l from ru)
 obtain⟨h_,rv,pp,hz⟩:=I1.list hq
 have hl:=rv.length
 refine call_reversed_list pp.isList (abB ?_)
 have jQ:l<s1.heap.objs.size:=let ⟨o,ho,_⟩:=pp.isList;aau ho
 have hL:(s1.heap.push (revObj l ((h_.toArray.size:Int)-1))).IsList l h_.toArray:=pp.isList.at fun o e=>aab _ e
 refine HF (s:={s1 with heap:=s1.heap.push (revObj l ((h_.toArray.size:Int)-1))}) (T:="list_reverseiterator") (d:=l) (n:=h_.toArray.size) (Walks.listRev (prog:=X.prog) (w:=X.w) (A:=X.A.in1.in1) (show X.A.in1.in1.handled=none from I.ok.hd hc) s1.heap.objs.size l (aaU jQ) h_.toArray) (fun h ⟨_,⟨o,ho,B4,_⟩,_⟩=>⟨o,ho,B4⟩) (by decide) (by decide)
  (fun A E s Q ⟨_,⟨o,ho,B4,_⟩,_⟩ hq=>JR ⟨o,ho,B4⟩ hq) (fun A E s Q ⟨_,x,_⟩ hq=>wpAny_pyIter_revIter x hq) (aaD jQ (by show s1.heap.objs.size≤(s1.heap.push _).objs.size;rw[Heap.size_push];exact Nat.le_succ _))
  ⟨aaz _,by
   have e:(h_.toArray.size:Int)-1-((0:Nat):Int)=(h_.toArray.size:Int)-1:=by omega
   rw[e];exact⟨_,aav _ rfl,rfl,rfl⟩,hL⟩ (by rw[aai,←hl];exact hz) fun h' tk acc c hk hS vY=>?_
 have hf:H1 (s1.heap.push (revObj l ((h_.toArray.size:Int)-1))).objs.size=none:=I1.iH.fresh (by rw[Heap.size_push];omega)
 have rel:Vals xs.reverse acc.toList:=by
  have hsz:acc.toList.length=acc.size:=abc
  refine pM (by rw[abr,hsz,vY.1,aai,hl]) fun i x y hx hy=>?_
  have hi:i<xs.length:=by have:=(List.getElem?_eq_some_iff.mp hx).1;rwa [abr] at this
  have z:=vY.2 i y (by rw[←aa8];exact hy)
  rw[List.getElem?_reverse hi] at hx
  obtain⟨w,hw,Bp⟩:=rv.get hx
  rw[aai,←hl] at z
  have z2:h_[xs.length-1-i]?=some y:=by simpa using z
  rw[hw] at z2
  cases z2
  exact Bp
 refine⟨.ref _,upd H1 _ (.lst xs.reverse),I1.laid (t':=tk) (h':=h') (fun b o e=>hk b o (aaU (aau e)) (aab _ e)) (by rw[Heap.size_push];omega) ?_,rfl,q _ hf⟩
 exact⟨by rw[abr];exact hz,acc.toList,c,rel,by rw[Array.toArray_toList];exact hS⟩
end
open PySem PySem.Builtin.Str
theorem subAt_one(s:Str)(c i:Nat):subAt s ⟨#[c]⟩ i=decide (s.cps[i]?=some c):=by
 unfold subAt
 show(s.cps.extract i (i+1) ==#[c])=_
 rw[abF]
 simp only [ab5,abV]
 by_cases h:i<s.cps.size
 ·have e:s.cps.extract i (i+1)=#[s.cps[i]]:=by
   apply Array.ext
   ·simp;omega
   ·intro j h1 h2
    simp at h2
    subst h2
    simp
  rw[e,aaY h]
  constructor
  ·intro z;simpa using z
  ·intro z;simpa using z
 ·have e:s.cps.extract i (i+1)=#[]:=by
   apply Array.ext
   ·simp;omega
   ·intro j h1 h2;simp at h2
  rw[e,Array.getElem?_eq_none (by omega)]
  simp
noncomputable def oG(s sub:Str)(hi:Nat)(p:Array Nat×Nat)(i:Nat):Array Nat×Nat:=
 if(decide (p.1.size<1)&&decide (p.2≤i)&&decide (i+sub.length≤hi)&&subAt s sub i)=true then(p.1.push i,i+sub.length) else p
theorem JT(s sub:Str)(lo hi:Nat):occurrences s sub lo hi 1=((List.range' lo (hi+1-lo)).foldl (oG s sub hi) (#[],lo)).1.toList:=by
 unfold occurrences
 simp only [Std.Legacy.Range.forIn_eq_forIn_range',Std.Legacy.Range.size]
 rw[show(hi+1-lo+1-1)/1=hi+1-lo by omega]
 generalize List.range' lo (hi+1-lo)=l
 generalize ((#[],lo):Array Nat×Nat)=p
 show Id.run (forIn l p _ >>= _)=_
 have go:∀(l:List Nat)(p:Array Nat×Nat),(forIn l p (fun(i:Nat) (q:Array Nat×Nat)=>(if(decide (q.fst.size<1)&&decide (q.snd≤i)&&decide (i+sub.length≤hi)&&subAt s sub i)=true then
   pure (ForInStep.yield (q.fst.push i,i+sub.length)) else pure (ForInStep.yield (q.fst,q.snd)):Id (ForInStep (Array Nat×Nat)))):Id (Array Nat×Nat))=l.foldl (oG s sub hi) p:=by
  intro l
  induction l with
  | nil=>intro p;rfl
  | cons a r ih=>
   intro p
   rw[List.forIn_cons,List.foldl_cons]
   unfold oG
   split
   ·exact ih _
   ·exact ih _
 rw[go]
 rfl
theorem Mi(s:Str)(c:Nat):(occurrences s ⟨#[c]⟩ 0 s.length 1).isEmpty=decide (c∉s.cps.toList):=by
 rw[JT]
 have inv:∀(l:List Nat)(p:Array Nat×Nat),(p.1=#[]→p.2=0)→((l.foldl (oG s ⟨#[c]⟩ s.length) p).1=#[]↔p.1=#[]∧∀i∈l,¬(i+1≤s.length∧s.cps[i]?=some c)):=by
  intro l
  induction l with
  | nil=>intro p _;simp
  | cons a r ih=>
   intro p hp
   rw[List.foldl_cons]
   by_cases hc:(decide (p.1.size<1)&&decide (p.2≤a)&&decide (a+(⟨#[c]⟩:Str).length≤s.length)&&subAt s ⟨#[c]⟩ a)=true
   ·have e:oG s ⟨#[c]⟩ s.length p a=(p.1.push a,a+(⟨#[c]⟩:Str).length):=aar hc
    rw[e,ih _ (fun z=>by simp at z)]
    simp only [abf,abV,subAt_one] at hc
    constructor
    ·rintro⟨z,_⟩;simp at z
    ·rintro⟨z,h⟩
     exact absurd ⟨hc.1.2,hc.2⟩ (h a aal)
   ·have e:oG s ⟨#[c]⟩ s.length p a=p:=aap hc
    rw[e,ih _ hp]
    constructor
    ·rintro⟨z,h⟩
     refine⟨z,fun i hi=>?_⟩
     rcases Z8.mp hi with rfl|hi
     ·intro ⟨h1,h2⟩
      apply hc
      simp only [abf,abV,subAt_one]
      exact⟨⟨⟨by rw[z];decide,by rw[hp z];exact aaz _⟩,h1⟩,h2⟩
     ·exact h i hi
    ·rintro⟨z,h⟩
     exact⟨z,fun i hi=>h i (aae _ hi)⟩
 have h:=inv (List.range' 0 (s.length+1-0)) (#[],0) (fun _=>rfl)
 rw[abF,abV,List.isEmpty_iff]
 rw[show(List.foldl (oG s ⟨#[c]⟩ s.length) (#[],0) (List.range' 0 (s.length+1-0))).1.toList=[]↔(List.foldl (oG s ⟨#[c]⟩ s.length) (#[],0) (List.range' 0 (s.length+1-0))).1=#[] from ⟨fun z=>by simpa using z,fun z=>by rw[z]⟩,h]
 constructor
 ·rintro⟨_,h⟩ hm
  obtain⟨i,hi,e⟩:=List.mem_iff_getElem.mp hm
  have Bq:i<s.cps.size:=by simpa using hi
  refine h i (by rw[List.mem_range'_1];show 0≤i∧i<0+(s.cps.size+1-0);omega) ⟨Bq,?_⟩
  rw[aaY Bq]
  simpa using e
 ·intro hn
  refine⟨rfl,fun i _ ⟨_,h2⟩=>hn ?_⟩
  exact WI (i:=i) (by rw[aa8];exact h2)
section
variable{prog:Program}{w:World}{A:Around}{E:Qqq}{s:Shared}
end
section
variable{X:Cx}
end
def wD(h:Heap)(d:Addr)(es:Array DictEntry)(ep:Nat):Prop:=∃o,h.get? d=some o∧o.ExactDict∧o.data=.dict es ep
section
variable{P:Program}{w:World}{A:Around}{E:Qqq}{s:Shared}{d it:Addr}{es:Array DictEntry}{ep i:Nat}
theorem wD.ty(x:wD s.heap d es ep):s.TypeIs (.ref d) "dict":=by obtain⟨o,e,c,_⟩:=x;exact⟨o,e,c.1⟩
theorem wD.at{h h':Heap}(x:wD h d es ep)(k:∀o,h.get? d=some o→h'.get? d=some o):wD h' d es ep:=by obtain⟨o,e,r⟩:=x;exact⟨o,k o e,r⟩
theorem Em{Q:Qqq}(lo:(d ==sysModules)=false)(x:wD s.heap d es ep)
  (k:Q (.ref s.heap.objs.size) {s with heap:=s.heap.push {cls:=.type "dict_keyiterator",data:=.fields #[.ref d,.int 0 0,.int es.size 0,.int ep 0]}}):wpAny (model P w) A (pyIter (.ref d)) Q E s:=by
 have ty:=x.ty
 obtain⟨o,e,c,dt⟩:=x
 refine wpAny_pyIter_slot ty F.slot_dict_iter (ab4 F.slot_dict_iter ty F.entry_dict_iter ?z (F.args_dict_iter_1 _))
 case z=>
  unfold Builtin.«dict.__iter__» Builtin.Dict.dictSlotNone
  refine T1 (T1 (wpAny_notOrdered_dict ty (show wpAny _ _ (pure (Value.ref d)) _ _ s from aag ?z)))
  case z=>
   show wpAny _ _ (Builtin.Dict.showsAll d >>= _) _ _ s
   unfold Builtin.Dict.showsAll
   rw[lo,aap (fun z=>by cases z)]
   refine T1 (aag (T1 (abh e dt (T1 (wpAny_dictEpoch e dt (T1 (wpAny_newObj_type (aag ?z))))))))
   case z=>exact⟨_,rfl,"dict_keyiterator",_,⟨_,aav _ rfl,rfl⟩,abw.lookup,by simpa[rawInt] using k⟩
theorem En{Q:Option Value→Shared→Prop}{y:DictEntry}(x:s.heap.IsKeyIter it d i es.size ep)(r:wD s.heap d es ep)(hy:es[i]?=some y)
  (k:∀h',h'.IsKeyIter it d (i+1) es.size ep→Heap.SameBut it s.heap h'→Q (some y.key) {s with heap:=h'}):wpAny (model P w) A (pyNext (.ref it)) Q E s:=by
 have ty:=x.typeIs
 obtain⟨o,e,c,dt⟩:=id x
 obtain⟨o2,e2,c2,TK⟩:=r
 have Qw:Builtin.Dict_items.ownsTuple "dict_keyiterator"=false:=by decide
 unfold pyNext
 refine T1 (wpAny_attempt (wpAny_callSpecial?_slot (name:=Str.ofString "__next__") ty abw (ab4 abw ty F.entry_dict_keyiterator_next ?z (F.args_dict_keyiterator_next_1 _))))
 case z=>
  refine T1 (aag (T1 (T1 ?z)))
  case z=>
   first|refine T1 (abM ty (aag (T1 (wpAny_fieldsOf e dt ?z))))|refine T1 (wpAny_typeNameOf_keyiter ty (aag (T1 (wpAny_fieldsOf e dt ?z))))
   case z=>
    simp only [Qw,aaV,abS]
    show wpAny _ _ (if(Value.ref d ==Value.none)=true then _ else _) _ _ s
    rw[aap (fun z=>by cases z)]
    refine T1 (aag (T1 (abh e2 TK ?z)))
    case z=>
     rw[aap (by simp)]
     refine T1 (aag (T1 (wpAny_dictEpoch e2 TK ?z)))
     case z=>
      rw[aap (by simp)]
      refine aag ?z
      case z=>
       simp only [show ¬((i:Int)<0) by omega,abS,aa2,hy]
       refine T1 ?z
       case z=>
        first|refine T1 (abM ty (aag (T1 (wpAny_isOneOf_keyiter ty ?z))))|refine T1 (wpAny_typeNameOf_keyiter ty (aag (T1 (wpAny_isOneOf_keyiter ty ?z))))
        case z=>
         show wpAny _ _ (setField (.ref it) 1 (rawInt ((i:Int)+1)) >>= _) _ _ s
         have n:(s.heap.update it (Obj.mapFields (·.setIfInBounds 1 (rawInt ((i:Int)+1))))).IsKeyIter it d (i+1) es.size ep:=
          ⟨_,aa4 _ e (Obj.isFreed_of_fields (Obj.data_mapFields dt _)),(Obj.cls_mapFields ..).trans c,by rw[Obj.data_mapFields dt];simp[rawInt]⟩
         refine T1 (wpAny_setField e dt (by simp) (T1 (abD (T1 (wpAny_isOneOf_keyiter (s:={s with heap:=s.heap.update it (Obj.mapFields (·.setIfInBounds 1 (rawInt ((i:Int)+1))))}) n.typeIs ?z)))))
         case z=>
          show wpAny _ _ (pure y.key) _ _ _
          exact aag (aag ⟨_,rfl,aag (k _ n (abt ..))⟩)
theorem Eo{Q:Option Value→Shared→Prop}(hh:A.handled=none)(x:s.heap.IsKeyIter it d i es.size ep)(r:wD s.heap d es ep)(hy:es.size≤i)
  (k:∀h',Heap.ExtBut it s.heap h'→Q none {s with heap:=h'}):wpAny (model P w) A (pyNext (.ref it)) Q E s:=by
 have ty:=x.typeIs
 obtain⟨o,e,c,dt⟩:=id x
 obtain⟨o2,e2,c2,TK⟩:=r
 have Qw:Builtin.Dict_items.ownsTuple "dict_keyiterator"=false:=by decide
 unfold pyNext
 refine T1 (wpAny_attempt (wpAny_callSpecial?_slot (name:=Str.ofString "__next__") ty abw (ab4 abw ty F.entry_dict_keyiterator_next ?z (F.args_dict_keyiterator_next_1 _))))
 case z=>
  refine T1 (aag (T1 (T1 ?z)))
  case z=>
   first|refine T1 (abM ty (aag (T1 (wpAny_fieldsOf e dt ?z))))|refine T1 (wpAny_typeNameOf_keyiter ty (aag (T1 (wpAny_fieldsOf e dt ?z))))
   case z=>
    simp only [Qw,aaV,abS]
    show wpAny _ _ (if(Value.ref d ==Value.none)=true then _ else _) _ _ s
    rw[aap (fun z=>by cases z)]
    refine T1 (aag (T1 (abh e2 TK ?z)))
    case z=>
     rw[aap (by simp)]
     refine T1 (aag (T1 (wpAny_dictEpoch e2 TK ?z)))
     case z=>
      rw[aap (by simp)]
      refine aag ?z
      case z=>
       simp only [show ¬((i:Int)<0) by omega,abS,aa2,Array.getElem?_eq_none hy]
       refine T1 ?z
       case z=>
        first|refine T1 (abM ty (aag ?z))|refine T1 (wpAny_typeNameOf_keyiter ty (aag ?z))
        case z=>
         show wpAny _ _ (setField (.ref it) 0 .none >>= _) _ _ s
         refine T1 (wpAny_setField e dt (by simp) ?z)
         case z=>
          show wpAny _ _ (newExc (.type "StopIteration") [] >>= _) _ _ _
          refine T1 ?z
          case z=>
           simp only [newExc,newTuple]
           refine T1 (wpAny_newObj_type (T1 (m:=firstArgMember _ _) (wpAny_of_eq (a:=Value.none) (by first|rfl|(simp only [firstArgMember];rfl)) (wpAny_newObj_type ?z (by size_fits)))) (by size_fits))
           case z=>
            simp only [raiseNew]
            refine T1 (wpAny_handled ?z)
            case z=>
             rw[show A.in1.handled=none from hh]
             refine T1 (aag (wpAny_throw ?z))
             case z=>exact T1 (wpAny_isInstance (T:="StopIteration") (b:=true) ⟨_,aav _ rfl,rfl⟩ isSubtype_stop <| aag (k _ (((abt ..).extBut.push _).push _)))
end
section
variable{X:Cx}{c_:Qqz}{σ:St}{H:Hp}{s:Shared}{tg:Expr}
noncomputable def HG(d:Addr)(o:Obj)(kvs:List (List Key×V)):It:=
 ⟨fun i H=>H d=some (.nq o (.dT kvs))∧i<kvs.length,fun i H x H'=>H'=H∧∃k v b,kvs[i]?=some (k,v)∧x=.ref b∧H b=some (.tup (k.map kV)),fun i H=>H d=some (.nq o (.dT kvs))∧kvs.length≤i⟩
theorem kt_at{kvs:List (List Key×V)}{xs:List (List Key×Addr×Value)}(r:KT H kvs xs):∀{i:Nat} {k:List Key} {b:Addr} {u:Value},xs[i]?=some (k,b,u)→∃v,kvs[i]?=some (k,v)∧H b=some (.tup (k.map kV))∧RelV v u:=by
 induction r with
 | nil=>intro i k b u e;simp at e
 | @cons p q ps qs f t ih=>
  intro i k b u e
  cases i with
  | zero=>
   simp at e
   subst e
   exact⟨p.2,aa6 some (Prod.ext f.1 rfl),by rw[←show p.1=k from f.1];exact f.2.1,f.2.2⟩
  | succ i=>
   obtain⟨v,h1,h2⟩:=ih (by simpa using e)
   exact⟨v,by simpa using h1,h2⟩
theorem zx{P:Program}{w:World}{h:Heap}{d:Addr}{kvs:List (List Key×V)}(q:iY P w H h d (.dT kvs)):(d ==sysModules)=false∧kvs.length≤sizeLine∧∃(es:Array DictEntry)(ep:Nat),wD h d es ep∧es.size=kvs.length∧
  (∀(i:Nat)(y:DictEntry),es[i]?=some y→∃k v b,kvs[i]?=some (k,v)∧y.key=.ref b∧H b=some (.tup (k.map kV))∧RelV v y.val):=by
 obtain⟨hz,hs,xs,r,o,es,ep,ho,hc,hd,he,hn⟩:=q
 have sz:=ace he
 refine⟨hs,hz,es,ep,⟨o,ho,hc,hd⟩,by rw[sz];exact(aaj r).symm,fun i y hy=>?_⟩
 rw[entry_at he i] at hy
 obtain⟨⟨k,b,u⟩,hx,e⟩:=Option.map_eq_some_iff.mp hy
 obtain⟨v,h1,h2,h3⟩:=kt_at r hx
 subst e
 exact⟨k,v,b,h1,rfl,h2,h3⟩
theorem FL{P:Program}{w:World}{K:Qqy}(d it:Addr)(o:Obj)(es:Array DictEntry)(ep:Nat)(kvs:List (List Key×V))(K_:o.data=.dict es ep)(hsz:es.size=kvs.length):Turn P w K tg (HG d o kvs) [it] it (fun i h=>h.IsKeyIter it d i es.size ep) where
 mem:=by simp
 obj:=fun i h st b hb=>by
  have e:b=it:=by simpa using hb
  subst e
  obtain⟨o,e,c,d⟩:=st
  exact⟨o,e,fun v z=>by rw[d] at z;cases z⟩
 keep:=fun i h h' st k=>st.at fun o e=>k it (by simp) o e
 item:=by
  intro X hP hw hK hc i c_ s σ H E I hf st hg
  subst hP hw hK
  obtain⟨hd,hi⟩:=hg
  obtain⟨ho,q⟩:=(show iY X.prog X.w H s.heap d (.nq o (.dT kvs)) from I.iH d _ hd)
  obtain⟨_,_,Rh,NX,raw,sz,N7⟩:=zx q
  obtain⟨o',qh,h2,h3⟩:=id raw
  rw[ho] at qh;cases qh
  rw[K_] at h3;cases h3
  have Bq:i<es.size:=by omega
  obtain⟨k,v,b,e1,e2,e3,_⟩:=N7 i es[i] (aaY Bq)
  obtain⟨f0,f1,f2,f3,f4,f5⟩:=hf it (by simp)
  refine En st raw (aaY Bq) fun h' Bm sb=>?_
  have I1:Inv X c_ σ H {s with heap:=h'}:=I.turned (t':=s.toks) (fun b o hb e=>(sb.2 b hb).trans e) f0 f1 f3 f4 f5
  obtain⟨o',e,c,dd⟩:=id Bm
  exact⟨_,rfl,y7 (s:={s with heap:=h'}) e c dd (by decide) ⟨.ref b,H,I1,e2,⟨rfl,k,v,b,e1,rfl,e3⟩,Bm,fun b hb=>(hf b hb).1⟩⟩
 done:=by
  intro X hP hw hK hc i c_ s σ H E I hf st hg
  subst hP hw hK
  obtain⟨hd,hi⟩:=hg
  obtain⟨ho,q⟩:=(show iY X.prog X.w H s.heap d (.nq o (.dT kvs)) from I.iH d _ hd)
  obtain⟨_,_,Rh,NX,raw,sz,N7⟩:=zx q
  obtain⟨o',qh,h2,h3⟩:=id raw
  rw[ho] at qh;cases qh
  rw[K_] at h3;cases h3
  obtain⟨f0,f1,f2,f3,f4,f5⟩:=hf it (by simp)
  exact Eo (I.ok.hd hc) st raw (by omega) fun h' eb=>⟨rfl,I.turned (t':=s.toks) (fun b o hb e=>eb b o hb e) f0 f1 f3 f4 f5⟩
 self:=fun _ _ _ _ _ st h=>wpAny_pyIter_keyiter st h
def Pg(X:Cx)(td:TE):TI:=fun σ H R=>td σ H fun x H1=>∃d kvs,x=.ref d∧H1 d=some (.dT kvs)∧∀o,zv X d→R (HG d o kvs) (upd H1 d (.nq o (.dT kvs)))
theorem zy{l:Expr}{td:TE}(hl:PE X l td):PI X tg l (Pg X td):=by
 intro c_ s σ H R I h
 refine i6 (hl c_ s σ H _ I h) fun v s1 iF=>?_
 obtain⟨x,H1,I1,r1,q1⟩:=iF
 obtain⟨d,kvs,e,hd,q⟩:=q1
 subst e
 cases r1
 have nf:=I1.Pb hd True.intro
 obtain⟨o,ho,I2⟩:=I1.frozen hd True.intro
 obtain⟨hs,_,es,ep,raw,sz,_⟩:=zx (I1.iH d _ hd)
 obtain⟨o',qh,h2,h3⟩:=id raw
 rw[ho] at qh;cases qh
 refine Em hs raw ?_
 refine⟨s1.heap.objs.size,[s1.heap.objs.size],_,_,_,rfl,I2.kept (t':=s1.toks) fun b o e=>aab _ e,FL d _ o es ep kvs h3 sz,⟨_,aav _ rfl,rfl,rfl⟩,fun b hb=>?_,q o nf⟩
 have e:b=s1.heap.objs.size:=by simpa using hb
 subst e
 exact I2.y6 (WL _) (I2.iH.fresh (WL _))
theorem BJ{d:Addr}{o:Obj}{kvs:List (List Key×V)}{g:TG}{tb:TS}{D:Ends}{σ:St}{H:Hp}(Pv:Nat→St→Hp→Prop)(h0:Pv 0 σ H)(hl:∀i σ H,Pv i σ H→H d=some (.nq o (.dT kvs)))
  (hs:∀i k v b σ H,kvs[i]?=some (k,v)→H b=some (.tup (k.map kV))→Pv i σ H→g (.ref b) σ H fun σ2 H2=>tb {D with nx:=Pv (i+1),ct:=Pv (i+1),bk:=D.nx} σ2 H2) (hd:∀σ H,Pv kvs.length σ H→D.nx σ H) :
  ∃W:Nat→Nat→St→Hp→Prop,(∃m,W 0 m σ H)∧∀i m σ H,W i m σ H→
   ((HG d o kvs).stop i H∧D.nx σ H)∨((HG d o kvs).go i H∧∃N:St→Hp→Prop,(∀σ' H',N σ' H'→∃m',m'<m∧W (i+1) m' σ' H')∧∀x H',(HG d o kvs).Jg i H x H'→g x σ H' fun σ2 H2=>tb {D with nx:=N,ct:=N,bk:=D.nx} σ2 H2):=by
 refine⟨fun i m σ H=>m=kvs.length-i∧i≤kvs.length∧Pv i σ H,⟨kvs.length,by simp,aaz _,h0⟩,?_⟩
 rintro i m σ H ⟨rfl,hi,p⟩
 have q:=hl i σ H p
 by_cases jQ:i<kvs.length
 ·refine .inr ⟨⟨q,jQ⟩,Pv (i+1),fun σ' H' p'=>⟨kvs.length-(i+1),by omega,rfl,jQ,p'⟩,fun x H' y=>?_⟩
  obtain⟨e,k,v,b,y,rfl,hb⟩:=y
  subst e
  exact hs i k v b σ _ y hb p
 ·have e:i=kvs.length:=by omega
  subst e
  exact .inl ⟨⟨q,WL _⟩,hd σ H p⟩
theorem JU{d:Addr}{o:Obj}{kvs:List (List Key×V)}{g:TG}{tt:TT}{te:TE}{Q:List V→Hp→Prop}{σ:St}{H:Hp}(hn:kvs.length≤sizeLine)(Pv:Nat→List V→St→Hp→Prop)(h0:Pv 0 [] σ H)(hl:∀i ys σ H,Pv i ys σ H→H d=some (.nq o (.dT kvs))∧ys.length≤i)
  (hs:∀i k v b ys σ H,kvs[i]?=some (k,v)→H b=some (.tup (k.map kV))→Pv i ys σ H→g (.ref b) σ H fun σ2 H2=>tt σ2 H2 fun c H3=>if c=true then te σ2 H3 fun v H4=>Pv (i+1) (ys++[v]) σ2 H4 else Pv (i+1) ys σ2 H3)
  (hd:∀ys σ H,Pv kvs.length ys σ H→Q ys H):HD g tt te (HG d o kvs) Q σ H:=by
 refine⟨fun i m ys σ H=>m=kvs.length-i∧i≤kvs.length∧Pv i ys σ H,⟨kvs.length,by simp,aaz _,h0⟩,?_⟩
 rintro i m ys σ H ⟨rfl,hi,p⟩
 obtain⟨q,hy⟩:=hl i ys σ H p
 by_cases jQ:i<kvs.length
 ·refine .inr ⟨⟨q,jQ⟩,by omega,Pv (i+1),fun Rl σ' H' p'=>⟨kvs.length-(i+1),by omega,rfl,jQ,p'⟩,fun x H' y=>?_⟩
  obtain⟨e,k,v,b,y,rfl,hb⟩:=y
  subst e
  exact hs i k v b ys σ _ y hb p
 ·have e:i=kvs.length:=by omega
  subst e
  exact .inl ⟨⟨q,WL _⟩,by omega,hd ys σ H p⟩
end
section
variable{P:Program}{w:World}{d it:Addr}{es:Array DictEntry}{ep:Nat}
theorem HH{A:Around}(hh:A.handled=none)(rB:d≠it):Walks P w A it [it,d] [it] es.size (fun i v=>∃y,es[i]?=some y∧v=y.key) (fun i h=>h.IsKeyIter it d i es.size ep∧wD h d es ep) where
 sub:=fun b hb=>by rw[WG.mp hb];exact aal
 frame:=fun i h h' ⟨a,b⟩ hk=>⟨a.at fun o e=>hk it aal o e,b.at fun o e=>hk d (by simp) o e⟩
 item:=fun i s Q E hi ⟨a,b⟩ hQ=>En a b (aaY hi) fun h' a' sb=>hQ _ h' s.toks ⟨_,aaY hi,rfl⟩ ⟨a',b.at fun o e=>sb.extBut d o rB e⟩ fun b o hb e=>sb.extBut b o (fun z=>hb (by rw[z];exact WG.mpr rfl)) e
 done:=fun s Q E ⟨a,b⟩ hQ=>Eo hh a b (WL _) fun h' eb=>hQ h' s.toks fun b o hb e=>eb b o (fun z=>hb (by rw[z];exact WG.mpr rfl)) e
 self:=fun i s Q E ⟨a,_⟩ hQ=>wpAny_pyIter_keyiter a hQ
theorem Mj(lo:(d ==sysModules)=false):W.KdlSrc P w "dict" d d es.size (fun i v=>∃y,es[i]?=some y∧v=y.key) (fun h=>wD h d es ep) where
 type:=fun s r=>r.ty
 there:=fun h ⟨o,e,_⟩=>⟨aau e,aau e⟩
 keep:=fun h h' r hk=>r.at fun o e=>hk d (.inl rfl) o e
 notList:=by decide
 notTuple:=by decide
 hint:=fun A E s Q r hq=>W.kdl_hint_dict r.ty hq
 iter:=fun A s hh r=>⟨_,_,(fun E Q hq=>Em lo r hq),HH hh (by obtain⟨o,e,_⟩:=r;exact aaU (aau e)),⟨⟨_,aav _ rfl,rfl,rfl⟩,r.at fun o e=>aab _ e⟩⟩
end
section
variable{X:Cx}{c_:Qqz}{σ:St}{H:Hp}{s:Shared}
theorem yv(hc:X.calm=true):tQ X (.type "list") (fun xs H Q=>∃d kvs,xs=[V.ref d]∧H d=some (.dT kvs)∧∀p bs,H p=none→Paired (fun(kv:List Key×V) (b:Addr)=>H b=some (.tup (kv.1.map kV))) kvs bs→Q (.ref p) (upd H p (.lst (bs.map V.ref)))):=by
 intro c_ s σ H xs us Q I r h
 obtain⟨d,kvs,rfl,hd,q⟩:=h
 obtain⟨u,rfl,ru⟩:=vals1 r
 cases (show u=Value.ref d from ru)
 obtain⟨hs,hz,es,ep,raw,sz,N7⟩:=zx (I.iH d _ hd)
 refine W.kdl_call (Mj hs) (I.ok.hd hc) raw (by omega) fun h' tk acc c hk hS vY=>?_
 have hf:H s.heap.objs.size=none:=I.iH.fresh (WL _)
 have hb:∀i:Nat,i<kvs.length→∃k v b,kvs[i]?=some (k,v)∧(es[i]?.map DictEntry.key)=some (Value.ref b)∧H b=some (.tup (k.map kV)):=fun i hi=>by
  have Bq:i<es.size:=by omega
  obtain⟨k,v,b,e1,e2,e3,_⟩:=N7 i es[i] (aaY Bq)
  exact⟨k,v,b,e1,by rw[aaY Bq,ab9,e2],e3⟩
 let adr:Value→Addr:=fun v=>match v with|.ref b=>b|_=>0
 let bs:List Addr:=es.toList.map fun y=>adr y.key
 have IS:bs.length=kvs.length:=by show(es.toList.map _).length=_;rw[TU,abc];exact sz
 have hbs:∀(i:Nat)(b:Addr),bs[i]?=some b→∃k v,kvs[i]?=some (k,v)∧es[i]?.map DictEntry.key=some (Value.ref b)∧H b=some (.tup (k.map kV)):=fun i b e=>by
  have hi:i<kvs.length:=by rw[←IS];exact(List.getElem?_eq_some_iff.mp e).1
  obtain⟨k,v,b',e1,e2,e3⟩:=hb i hi
  have:bs[i]?=some b':=by
   show(es.toList.map _)[i]?=_
   rw[Z4,aa8]
   obtain⟨y,ey,e4⟩:=Option.map_eq_some_iff.mp e2
   rw[ey]
   show some (adr y.key)=_
   rw[e4]
  rw[this] at e
  cases e
  exact⟨k,v,e1,e2,e3⟩
 have rel:Vals (bs.map V.ref) acc.toList:=by
  refine pM (by have e1:=vY.1;have e2:acc.toList.length=acc.size:=abc;rw[TU,IS];omega) fun i a b ha hb=>?_
  rw[Z4] at ha
  obtain⟨b',e,rfl⟩:=Option.map_eq_some_iff.mp ha
  obtain⟨k,v,_,e2,_⟩:=hbs i b' e
  obtain⟨y,hy,hv⟩:=vY.2 i b (by rw[←aa8];exact hb)
  rw[hy,ab9] at e2
  show b=.ref b'
  rw[hv,aaA e2]
 refine⟨.ref s.heap.objs.size,upd H s.heap.objs.size (.lst (bs.map V.ref)),I.laid (t':=tk) hk (WL _) ?_,rfl,q _ bs hf (pM IS.symm fun i a b ha hb=>?_)⟩
 ·exact⟨by rw[TU,IS];exact hz,acc.toList,c,rel,by rw[Array.toArray_toList];exact hS⟩
 ·obtain⟨k,v,e1,_,e3⟩:=hbs i b hb
  rw[e1] at ha
  cases ha
  exact e3
end
section
variable{P:Program}{w:World}{κ:Type}[DecidableEq κ]{knd:HeapKind P w κ}{A:Around}{E:Qqq}{s:Shared}{d a:Addr}{xs:List (κ×Addr×Value)}{k:κ}
theorem JV{v:Value}{Q:Unit→Shared→Prop}(hu:knd.room A)(hk:knd.is s.heap k a)(m:s.heap.DictOfH knd d xs)(hz:xs.length≤sizeLine)
  (q:∀h',h'.DictOfH knd d (storedH xs k a v)→Heap.SameBut d s.heap h'→Q () {s with heap:=h'}):wpAny (model P w) A (dictSetHashed d (.ref a) (knd.hash k) v) Q E s:=by
 obtain⟨o,es,ep,ho,hc,hd,he,Rn,hn⟩:=m
 have sz:=ace he
 unfold dictSetHashed
 try with_reducible refine abD ?_
 refine T1 (wpAny_dictFind_heap hu hk ho hd he Rn hn (fun no=>?_) fun j p hj=>?_)
 ·have at0:=atKey_none_of_get no
  refine T1 (wpAny_rule (wpAny_updateDictKeys (hz:=by omega) ho hd (q _ ?_ (abt ..))))
  rw[storedH_new at0]
  refine⟨_,_,ep+1,aa4 _ ho (Obj.isFreed_of_dict (Obj.data_mapDictKeys hd _)),hc.mapDictKeys _,Obj.data_mapDictKeys hd _,by simp[he,entryOfKey],fun x hx=>?_,?_⟩
  ·refine knd.keeps ?_ ho hd (abt ..)
   rcases Z3.mp hx with hx|hx
   ·exact Rn x hx
   ·rw[WG.mp hx];exact hk
  ·rw[aat,aa3]
   exact⟨hn,by simp,fun x hx y hy z=>not_mem_keys_of_get no (by rw[WG.mp hy] at z;have z:x=k:=z;exact z▸hx)⟩
 ·have at1:=atKey_of_get hn hj
  refine T1 (wpAny_rule (T1 (wpAny_updateDict ho hd (wpAny_point (q _ ?_ (abt ..))))))
  rw[storedH_old at1]
  refine⟨_,_,ep,aa4 _ ho (Obj.isFreed_of_dict (Obj.data_mapDict hd _)),hc.mapDict _,Obj.data_mapDict hd _,?_,fun x hx=>?_,by rw[keys_map_putAt];exact hn⟩
  ·have z:=modify_map_putAt (entryOfKey knd) (fun e:DictEntry=>{e with val:=v}) k v (fun _ _=>rfl) hn hj
   rw[←he] at z
   obtain⟨l⟩:=es
   simpa using z
  ·obtain⟨y,hy,rfl⟩:=List.mem_map.mp hx
   unfold putAt
   split<;>exact knd.keeps (Rn y hy) ho hd (abt ..)
noncomputable def Ep(xs:List (κ×Addr×Value))(k:κ):List (κ×Addr×Value):=xs.filter fun x=>decide (x.1≠k)
theorem FN{β:Type}(f:κ×Addr×Value→β):∀{xs:List (κ×Addr×Value)} {j:Nat} {p:Addr×Value},(xs.map (·.1)).Nodup→xs[j]?=some (k,p)→(xs.map f).eraseIdx j=(Ep xs k).map f:=by
 intro xs
 induction xs with
 | nil=>intro j p _ hj;simp at hj
 | cons x r ih=>
  intro j p hn hj
  rw[aax,aa0] at hn
  unfold Ep
  cases j with
  | zero=>
   simp at hj
   have e:r.filter (fun x=>decide (x.1≠k))=r:=List.filter_eq_self.mpr fun y hy=>WM fun z=>hn.1 (by rw[hj];show k∈_;rw[←z];exact XE hy)
   rw[aad (by rw[hj];simp),e]
   rfl
  | succ j=>
   have hj:r[j]?=some (k,p):=by simpa using hj
   have ne:x.1≠k:=fun z=>hn.1 (by rw[z];exact List.mem_map.mpr ⟨_,WI hj,rfl⟩)
   rw[aaa (by simpa using ne),aax,aax,List.eraseIdx_cons_succ,ih hn.2 hj]
   rfl
theorem JW{p:Addr×Value}{Q:Option DictEntry→Shared→Prop}(hu:knd.room A)(hk:knd.is s.heap k a)(m:s.heap.DictOfH knd d xs)(hz:xs.length≤sizeLine)(hp:atKey xs k=some p)
  (q:∀h',h'.DictOfH knd d (Ep xs k)→Heap.SameBut d s.heap h'→Q (some ⟨knd.hash k,.ref p.1,p.2⟩) {s with heap:=h',toks:=s.toks+knd.draws k}):wpAny (model P w) A (Builtin.Dict.takeOut d (.ref a)) Q E s:=by
 obtain⟨o,es,ep,ho,hc,hd,he,Rn,hn⟩:=m
 have sz:=ace he
 unfold Builtin.Dict.takeOut
 try with_reducible refine abD ?_
 refine T1 (knd.pyHash hu hk (T1 (wpAny_dictFind_heap (s:={s with toks:=s.toks+knd.draws k}) hu hk ho hd he Rn hn (fun no=>?_) fun j p' hj=>?_)))
 ·rw[atKey_none_of_get no] at hp;cases hp
 ·have e:=atKey_of_get hn hj
  rw[hp] at e
  cases e
  refine T1 (abh (s:={s with toks:=s.toks+knd.draws k}) ho hd ?_)
  rw[entry_at he j,hj]
  refine T1 (wpAny_updateDictKeys (hz:=by omega) (s:={s with toks:=s.toks+knd.draws k}) ho hd (aag (q _ ?_ (abt ..))))
  refine⟨_,_,ep+1,aa4 _ ho (Obj.isFreed_of_dict (Obj.data_mapDictKeys hd _)),hc.mapDictKeys _,Obj.data_mapDictKeys hd _,?_,fun x hx=>knd.keeps (Rn x (aao.mp hx).1) ho hd (abt ..),(aaO.map _).nodup hn⟩
  have z:=FN (k:=k) (entryOfKey knd) hn hj
  rw[←he] at z
  rw[←z]
  obtain⟨l⟩:=es
  simp
noncomputable def kP(xs more:List (κ×Addr×Value)):List (κ×Addr×Value):=more.foldl (fun acc x=>storedH acc x.1 x.2.1 x.2.2) xs
theorem Er{xs more:List (κ×Addr×Value)}{i:Nat}{x:κ×Addr×Value}(h:more[i]?=some x):kP xs (more.take (i+1))=storedH (kP xs (more.take i)) x.1 x.2.1 x.2.2:=by
 unfold kP
 rw[List.take_add_one,h,List.foldl_append]
 rfl
theorem Es(xs:List (κ×Addr×Value))(k:κ)(a:Addr)(v:Value):(storedH xs k a v).length≤xs.length+1:=by
 unfold storedH
 split
 ·rw[TU];omega
 ·rw[W4];exact WL _
theorem FO(xs:List (κ×Addr×Value)):∀more:List (κ×Addr×Value),(kP xs more).length≤xs.length+more.length:=by
 intro more
 unfold kP
 induction more generalizing xs with
 | nil=>exact WL _
 | cons x r ih=>
  have h1:=ih (storedH xs x.1 x.2.1 x.2.2)
  have h2:=Es xs x.1 x.2.1 x.2.2
  rw[List.foldl_cons,aac]
  omega
theorem FP{nm:String}{o:Addr}{more:List (κ×Addr×Value)}{Q:Unit→Shared→Prop}(hu:knd.room A)(ne:d≠o)(lo:(o ==sysModules)=false)(rB:xs≠[])(md:s.heap.DictOfH knd d xs)(mo:s.heap.DictOfH knd o more)(hz:xs.length+more.length≤sizeLine)
  (q:∀h',h'.DictOfH knd d (kP xs more)→Heap.SameBut d s.heap h'→Q () {s with heap:=h'}):wpAny (model P w) A (Builtin.Dict.mergeDict nm d o) Q E s:=by
 obtain⟨od,Vm,epd,Vn,B5,Ro,TL,Vj,Qx⟩:=id md
 obtain⟨oo,II,epo,Vo,hco,K_,K2,hio,hno⟩:=id mo
 have szo:=ace K2
 have szd:=ace TL
 unfold Builtin.Dict.mergeDict Builtin.Dict.showsAll
 rw[aap (by simpa using ne),lo,aap (fun z=>by cases z)]
 refine T1 (aag (T1 (abh Vo K_ ?_)))
 dsimp only
 have loop:wpAny (model P w) A (do
   let TM ←dictEpoch o
   let l ←dictEntries o
   forIn [:l.size] PUnit.unit fun i (_:PUnit)=>(do
     let l' ←dictEntries o
     match l'[i]? with
      | some e=>do
       holding [e.key,e.val] (dictSetHashed d e.key e.hash e.val)
       let NX ←dictEpoch o
       if(NX != TM)=true then do (unsupported (toString nm++toString ":source-changed-during-callback"):Sem PUnit);pure (ForInStep.yield PUnit.unit)
        else pure (ForInStep.yield PUnit.unit)
      | _=>do (unsupported "internal:dict-merge":Sem PUnit);pure (ForInStep.yield PUnit.unit):Sem (ForInStep PUnit))
   pure ()) Q E s:=by
  refine T1 (wpAny_dictEpoch Vo K_ (T1 (abh Vo K_ (T1 ?_))))
  rw[Std.Legacy.Range.forIn_eq_forIn_range']
  simp only [Std.Legacy.Range.size,Nat.sub_zero,Nat.add_sub_cancel,Nat.div_one]
  refine wpAny_forIn_list _ (fun rest _ s'=>∃h' i,s'={s with heap:=h'}∧rest=List.range' i (II.size-i)∧i≤II.size∧h'.DictOfH knd d (kP xs (more.take i))∧Heap.SameBut d s.heap h') _ ?_ ?_ _ _ ⟨s.heap,0,rfl,by simp,aaz _,by simpa[kP] using md,Heap.SameBut.refl _ _⟩
  ·rintro x rest b s' ⟨h',i,rfl,hr,hi,hm,hs⟩
   have jQ:i<II.size:=by
    rcases Nat.lt_or_ge i II.size with z|z
    ·exact z
    ·rw[Nat.sub_eq_zero_of_le z] at hr;simp at hr
   obtain⟨ex,er⟩:x=i∧rest=List.range' (i+1) (II.size-(i+1)):=by
    rw[show II.size-i=(II.size-(i+1))+1 by omega,aci] at hr
    exact List.cons.inj hr
   subst ex
   have TN:h'.get? o=some oo:=(hs.2 o (abK ne)).trans Vo
   refine T1 (abh TN K_ ?_)
   obtain⟨⟨k,b2,v⟩,hx⟩:∃y,more[x]?=some y:=⟨more[x]'(by omega),TZ _⟩
   rw[entry_at K2 x,hx]
   show wpAny _ _ (holding [Value.ref b2,v] (dictSetHashed d (.ref b2) (knd.hash k) v) >>= _) _ _ _
   have hl:(kP xs (more.take x)).length≤sizeLine:=by
    have:=FO xs (more.take x)
    rw[aay] at this
    omega
   have hib:knd.is h' k b2:=knd.keeps (hio _ (WI hx)) Vn Ro hs
   refine T1 (abD (JV (s:={s with heap:=h'}) hu hib hm hl fun h2 m2 s2=>?_))
   refine T1 (wpAny_dictEpoch ((s2.2 o (abK ne)).trans TN) K_ ?_)
   rw[aap (by simp)]
   exact aag ⟨h2,x+1,rfl,er,jQ,by rw[Er hx];exact m2,hs.trans s2⟩
  ·rintro b s' ⟨h',i,rfl,hr,hi,hm,hs⟩
   have e:i=II.size:=by
    rcases Nat.lt_or_ge i II.size with z|z
    ·rw[show II.size-i=(II.size-(i+1))+1 by omega,aci] at hr;cases hr
    ·omega
   refine aag (q h' ?_ hs)
   rw[e,szo,aaq] at hm
   exact hm
 split
 ·refine T1 (abh Vn Ro ?_)
  rw[aap (fun z=>?_)]
  ·exact loop
  ·have:Vm=#[]:=Array.isEmpty_iff.mp z
   rw[this] at szd
   exact rB (aaG.mp szd.symm)
 ·exact loop
theorem JX{o:Addr}{more:List (κ×Addr×Value)}{Q:Qqq}(hu:knd.room A.in1)(ne:d≠o)(lo:(o ==sysModules)=false)(rB:xs≠[])(md:s.heap.DictOfH knd d xs)(mo:s.heap.DictOfH knd o more)(hz:xs.length+more.length≤sizeLine)
  (q:∀h',h'.DictOfH knd d (kP xs more)→Heap.SameBut d s.heap h'→Q .none {s with heap:=h'}):wpAny (model P w) A (call (.builtin "dict.update") [.ref d,.ref o]) Q E s:=by
 refine ab4 abW md.typeIs PySem.F.entry_dict_update ?_ (PySem.F.args_dict_update_2 _ _)
 unfold Builtin.«dict.update» Builtin.Dict.selfAndRest
 refine T1 (T1 (wpAny_notOrdered_dict md.typeIs (show wpAny _ _ (pure (d,[Value.ref o])) _ _ s from aag ?_)))
 show wpAny _ _ (Builtin.Dict.updateFrom "dict.update" d (.ref o) [] .none) _ _ s
 unfold Builtin.Dict.updateFrom
 refine T1 (wpAny_typeOf mo.typeIs ?_)
 rw[aap (by decide)]
 unfold Builtin.Dict.merge Builtin.Dict.readDirectly
 refine T1 (T1 (T1 (wpAny_isInstance mo.typeIs isSubtype_dict_dict ?_)))
 simp only [Bool.not_true,aaV,abS]
 refine T1 (aca mo.typeIs F.slot_dict_iter.lookup (aag ?_))
 simp only [beq_self_eq_true,if_true]
 refine T1 (aag (FP hu ne lo rB md mo hz fun h' m s'=>?_))
 show wpAny _ _ (Builtin.Dict.addKeywords d [] >>= _) _ _ _
 exact T1 (aag (aag ⟨.none,rfl,q h' m s'⟩))
end
noncomputable def putAll{κ:Type}[DecidableEq κ](kvs more:List (κ×V)):List (κ×V):=more.foldl (fun acc kv=>putK acc kv.1 kv.2) kvs
section
variable{κ:Type}[DecidableEq κ]
theorem rP(kvs:List (κ×V))(p:κ×V)(r:List (κ×V)):putAll kvs (p::r)=putAll (putK kvs p.1 p.2) r:=rfl
theorem qp:∀(more kvs:List (κ×V)),(putAll kvs more).length≤kvs.length+more.length
 | [],kvs=>WL _
 | p::r,kvs=>by
  have h1:=qp r (putK kvs p.1 p.2)
  have h2:=jf kvs p.1 p.2
  rw[rP,aac]
  omega
theorem kt_merged{H:Hp}{more:List (List Key×V)}{ys:List (List Key×Addr×Value)}(r:KT H more ys):∀{kvs:List (List Key×V)} {xs:List (List Key×Addr×Value)},KT H kvs xs→KT H (putAll kvs more) (kP xs ys):=by
 induction r with
 | nil=>intro kvs xs r;exact r
 | @cons p q ps qs f t ih=>
  intro kvs xs r
  have z:=r.put p.1 (b:=q.2.1) f.2.1 f.2.2
  have z2:=ih z
  rw[show kP xs (q::qs)=kP (storedH xs q.1 q.2.1 q.2.2) qs from rfl,←show p.1=q.1 from f.1]
  exact z2
theorem HI{more:List (κ×V)}{ys:List (κ×Value)}(r:KV more ys):∀{kvs:List (κ×V)} {xs:List (κ×Value)},KV kvs xs→KV (putAll kvs more) (merged xs ys):=by
 induction r with
 | nil=>intro kvs xs r;exact r
 | @cons p q ps qs f t ih=>
  intro kvs xs r
  have z:=ih (KV.put r p.1 f.2)
  rw[show merged xs (q::qs)=merged (stored xs q.1 q.2) qs from rfl,←show p.1=q.1 from f.1]
  exact z
end
section
variable{X:Cx}{c_:Qqz}{σ:St}{H:Hp}{s:Shared}{a b:Addr}{A:Around}{E:Qqq}
theorem Ml{kvs:List (List Key×V)}{xs:List (List Key×Addr×Value)}(r:KT H kvs xs)(k:List Key):KT H (jV kvs k) (Ep xs k):=by
 induction r with
 | nil=>exact .nil
 | @cons p q ps qs f t ih=>
  unfold jV Ep
  by_cases e:p.1=k
  ·have e':q.1=k:=f.1.symm.trans e
   rw[aad (by simp[e]),aad (by simp[e'])]
   exact ih
  ·have e':¬q.1=k:=fun z=>e (f.1.trans z)
   rw[aaa (by simp[e]),aaa (by simp[e'])]
   exact .cons f ih
theorem Ph{kvs more:List (List Key×V)}{Q:Qqq}(hu:A.units+1<cLine)(I:Inv X c_ σ H s)(ha:H a=some (.dT kvs))(hb:Rd H b (.dT more))(ne:a≠b)(h0:kvs≠[])(hz:kvs.length+more.length≤sizeLine)
  (h:∀s',Inv X c_ σ (upd H a (.dT (putAll kvs more))) s'→Q .none s'):wpAny (model X.prog X.w) A (call (.builtin "dict.update") [.ref a,.ref b]) Q E s:=by
 obtain⟨z,lo,xs,rel,dd⟩:=Jt I.iH ha
 obtain⟨z2,Xx,ys,Lb,Xy⟩:=xu I.iH hb
 have l1:=aaj rel
 have l2:=aaj Lb
 have x0:xs≠[]:=fun e=>h0 (aaG.mp (by rw[l1,e];rfl))
 refine JX (abJ hu) ne Xx x0 dd Xy (by omega) fun h' m hs=>h _ ?_
 obtain⟨q,es,ep,hq,h2,h3,h4,_,h5⟩:=m
 refine s_ (t':=s.toks) I (by rw[ha];exact True.intro) hs ⟨q,hq⟩ ⟨XI (qp _ _) hz,lo,_,(kt_merged Lb rel).keeps fun c ys ec=>?_,q,es,ep,hq,h2,h3,h4,h5⟩
 rw[e_ (i7 ec ha (fun z=>nomatch z))]
 exact ec
theorem Pj{kvs more:List (Key×V)}{Q:Qqq}(I:Inv X c_ σ H s)(ha:H a=some (.dK kvs))(hb:Rd H b (.dK more))(ne:a≠b)(hz:kvs.length+more.length≤sizeLine)
  (h:∀s',Inv X c_ σ (upd H a (.dK (putAll kvs more))) s'→Q .none s'):wpAny (model X.prog X.w) A (call (.builtin "dict.update") [.ref a,.ref b]) Q E s:=by
 obtain⟨z,lo,xs,rel,dd⟩:=Js I.iH ha
 obtain⟨z2,Xx,ys,Lb,Xy⟩:=xt I.iH hb
 have l1:=rel.length
 have l2:=Lb.length
 refine call_meetsIn abW dd.typeIs PySem.F.entry_dict_update (PySem.F.args_dict_update_2 _ _) (meets_dict_update (jg X.prog X.w) a b ne Xx) ⟨xs,ys,dd,Xy,by omega,fun h' LI _ hs=>h _ ?_⟩
 have he:∃q,h'.get? a=some q:=let ⟨q,_,_,hq,_⟩:=LI;⟨q,hq⟩
 exact s_ (t':=s.toks) I (by rw[ha];exact True.intro) hs he (FF (XI (qp _ _) hz) lo (HI Lb rel) LI)
theorem Pk{kvs:List (List Key×V)}{k:List Key}{v:V}{Q:Qqq}(hu:A.units+1<cLine)(I:Inv X c_ σ H s)(ha:H a=some (.dT kvs))(hb:H b=some (.tup (k.map kV)))(l:iI kvs k=some v)
  (h:∀w' s',Inv X c_ σ (upd H a (.dT (jV kvs k))) s'→RelV v w'→Q w' s'):wpAny (model X.prog X.w) A (call (.builtin "dict.pop") [.ref a,.ref b]) Q E s:=by
 obtain⟨z,lo,xs,rel,dd⟩:=Jt I.iH ha
 have l1:=aaj rel
 obtain⟨w',hw,Bp⟩:=pG.some_of (v:=v) (o:=(atKey xs k).map (·.2)) (by rw[←l];exact rel.val k)
 obtain⟨p,hp,AZ⟩:=Option.map_eq_some_iff.mp hw
 obtain⟨od,Vm,epd,Vn,B5,Ro,TL,Vj,Qx⟩:=id dd
 refine ab4 ab_ dd.typeIs PySem.F.entry_dict_pop ?_ (PySem.F.args_dict_pop_2 _ _)
 unfold Builtin.«dict.pop» Builtin.Dict.keyAndDefault
 refine T1 (T1 (wpAny_notOrdered_dict dd.typeIs (show wpAny _ _ (pure (a,Value.ref b,none)) _ _ s from aag ?_)))
 have part:(keyPart (Value.ref b)).isSome=false:=rfl
 simp only [part,aaV,abS]
 refine T1 (abh Vn Ro (T1 (aag ?_)))
 have ne:Vm.isEmpty=false:=by
  rw[abP]
  intro e
  have e:Vm=#[]:=Array.isEmpty_iff.mp e
  have sz:=ace TL
  rw[e] at sz
  have:xs=[]:=aaG.mp sz.symm
  rw[this] at hp
  cases hp
 simp only [ne,aaV,abS]
 refine T1 (JW (abJ hu) (uj I.iH hb) dd (by omega) hp fun h' m hs=>?_)
 simp only [Option.isNone_some,aaV,abS]
 refine T1 (wpAny_letGo (aag ⟨p.2,rfl,?_⟩))
 rw[AZ]
 refine h w' _ ?_ Bp
 obtain⟨q,es,ep,hq,h2,h3,h4,_,h5⟩:=m
 refine s_ I (by rw[ha];exact True.intro) hs ⟨q,hq⟩ ⟨XI (Eh _ _) z,lo,_,(Ml rel k).keeps fun c ys ec=>?_,q,es,ep,hq,h2,h3,h4,h5⟩
 rw[e_ (i7 ec ha (fun z=>nomatch z))]
 exact ec
theorem Mm{d:Addr}{es:Array DictEntry}{ep:Nat}{Q:Qqq}{P:Program}{w:World}(lo:(d ==sysModules)=false)(r:wD s.heap d es ep)(fit:(es.size:Int)<2 ^ 63)
  (h:Q (.int es.size (s.toks+1)) {s with toks:=s.toks+1+1}):wpAny (model P w) A (Builtin.«len» ⟨[.ref d],[]⟩) (fun fin s'=>∃r,fin=.done (.ret r)∧Q r s') E s:=by
 obtain⟨o,ho,hc,hd⟩:=id r
 unfold Builtin.«len»
 refine T1 (m:=oneArg "len" _) (aag (T1 (m:=callSpecial? (.ref d) (Str.ofString "__len__")) (wpAny_callSpecial?_slot (name:=Str.ofString "__len__") r.ty F.slot_dict_len (ab4 F.slot_dict_len r.ty F.entry_dict_len ?_ (F.args_dict_len_1 _)))))
 show wpAny _ _ (dictSize d >>= _) _ _ s
 unfold dictSize
 refine T1 (T1 (abh ho hd (aag ?_)))
 show wpAny _ _ (Builtin.Dict.pendingCount d >>= _) _ _ s
 refine T1 (wpAny_pendingCount_other lo (wpAny_ret_mkInt ?_))
 show wpAny _ _ _ _ _ {s with toks:=s.toks+1}
 refine T1 (abD (aag (T1 (wpAny_letGo ?_))))
 show wpAny _ _ (if((es.size+0:Nat):Int)<0 then _ else _) _ _ _
 rw[aap (by omega),Nat.add_zero]
 show wpAny _ _ (if((es.size:Nat):Int)≥2 ^ 63 then _ else _) _ _ _
 rw[aap (by omega)]
 exact T1 (wpAny_mkInt (aag ⟨_,rfl,h⟩))
theorem FQ{d:Addr}{es:Array DictEntry}{ep:Nat}{Q:Bool→Shared→Prop}{P:Program}{w:World}(lo:(d ==sysModules)=false)(r:wD s.heap d es ep)(fit:(es.size:Int)<2 ^ 63)
  (h:Q ((es.size:Int) != 0) {s with toks:=s.toks+1+1}):wpAny (model P w) A (truthy (.ref d)) Q E s:=by
 have key:wpAny (model P w) A (runValue (.builtin "len" ⟨[.ref d],[]⟩)) (fun r s'=>r=.int es.size (s.toks+1)∧Q ((es.size:Int) != 0) s') E s:=by
  refine wpAny_runValue (codeAny_builtin entry_len ?_)
  rw[Around.under_plainId plain_len _]
  refine abA (Mm (Q:=fun r s'=>r=.int es.size (s.toks+1)∧Q ((es.size:Int) != 0) s') lo r fit ⟨rfl,h⟩) (fun fin s' h'=>?_) fun _ _ e=>e
  obtain⟨r,rfl,hq⟩:=h'
  exact hq
 unfold truthy
 first
  | refine T1 (wpAny_callSpecial?_none (name:=Str.ofString "__bool__") r.ty noBool_dict ?_)
  | refine T1 (aag (T1 (wpAny_callSpecial?_none (name:=Str.ofString "__bool__") r.ty noBool_dict ?_)))
 first
  | refine T1 (aca (name:=Str.ofString "__len__") r.ty F.slot_dict_len.lookup ?_)
  | refine T1 (aag (T1 (aca (name:=Str.ofString "__len__") r.ty F.slot_dict_len.lookup ?_)))
 first
  | exact T1 (abA key (fun r s' h'=>by obtain⟨rfl,hq⟩:=h';exact aag hq) fun _ _ e=>e)
  | exact T1 (aag (T1 (abA key (fun r s' h'=>by obtain⟨rfl,hq⟩:=h';exact aag hq) fun _ _ e=>e)))
end
def Pl(td ty:TE):TE:=fun σ H Q=>td σ H fun x H1=>∃a,x=.ref a∧Q8 H1 a∧ty σ H1 fun y H2=>∃b kvs more,y=.ref b∧H2 a=some (.dT kvs)∧Rd H2 b (.dT more)∧a≠b∧kvs≠[]∧kvs.length+more.length≤sizeLine∧Q .jm (upd H2 a (.dT (putAll kvs more)))
def Pm(td ty:TE):TE:=fun σ H Q=>td σ H fun x H1=>∃a,x=.ref a∧Q8 H1 a∧ty σ H1 fun y H2=>∃b kvs more,y=.ref b∧H2 a=some (.dK kvs)∧Rd H2 b (.dK more)∧a≠b∧kvs.length+more.length≤sizeLine∧Q .jm (upd H2 a (.dK (putAll kvs more)))
def Pn(td ty:TE):TE:=fun σ H Q=>td σ H fun x H1=>∃a,x=.ref a∧Q8 H1 a∧ty σ H1 fun y H2=>∃b kvs k v,y=.ref b∧H2 a=some (.dT kvs)∧H2 b=some (.tup (k.map kV))∧iI kvs k=some v∧Q v (upd H2 a (.dT (jV kvs k)))
section
variable{X:Cx}{o e f:Expr}{apos k7:Pos}{td ty tx:TE}
theorem JY(hu:X.A.units+1<cLine)(ho:PE X o td)(he:PE X e ty)(m:M1 X o "update" apos e k7):PE X (.Call (.Attribute o "update" apos) [e] [] k7) (Pl td ty):=by
 intro c_ s σ H Q I h
 refine wpAny_Call_method m.base m.jA m.line abO abW PySem.F.type_dict_update (i6 (ho c_ s σ H _ I h) fun u s1 iF=>?_)
 obtain⟨x,H1,I1,rx,a,ex,d,q1⟩:=iF
 subst ex
 obtain rfl:u=Value.ref a:=rx
 obtain⟨t1,t2,_⟩:=zh I1 d
 refine⟨t1,t2,?_⟩
 rw[m.trees]
 refine abl rfl (aby (abj (i6 (he c_ s1 σ H1 _ I1 q1) fun iv s2 iF=>?_)))
 obtain⟨y,H2,I2,ry,b,kvs,more,ey,ha,hb,ne,h0,hz,q2⟩:=iF
 refine abB ?_
 subst ey
 obtain rfl:iv=Value.ref b:=ry
 exact Ph hu I2 ha hb ne h0 hz fun s3 I3=>⟨.jm,_,I3,rfl,q2⟩
theorem JZ(ho:PE X o td)(he:PE X e ty)(m:M1 X o "update" apos e k7):PE X (.Call (.Attribute o "update" apos) [e] [] k7) (Pm td ty):=by
 intro c_ s σ H Q I h
 refine wpAny_Call_method m.base m.jA m.line abO abW PySem.F.type_dict_update (i6 (ho c_ s σ H _ I h) fun u s1 iF=>?_)
 obtain⟨x,H1,I1,rx,a,ex,d,q1⟩:=iF
 subst ex
 obtain rfl:u=Value.ref a:=rx
 obtain⟨t1,t2,_⟩:=zh I1 d
 refine⟨t1,t2,?_⟩
 rw[m.trees]
 refine abl rfl (aby (abj (i6 (he c_ s1 σ H1 _ I1 q1) fun iv s2 iF=>?_)))
 obtain⟨y,H2,I2,ry,b,kvs,more,ey,ha,hb,ne,hz,q2⟩:=iF
 refine abB ?_
 subst ey
 obtain rfl:iv=Value.ref b:=ry
 exact Pj I2 ha hb ne hz fun s3 I3=>⟨.jm,_,I3,rfl,q2⟩
theorem J0(hu:X.A.units+1<cLine)(ho:PE X o td)(he:PE X e ty)(m:M1 X o "pop" apos e k7):PE X (.Call (.Attribute o "pop" apos) [e] [] k7) (Pn td ty):=by
 intro c_ s σ H Q I h
 refine wpAny_Call_method m.base m.jA m.line abO ab_ PySem.F.type_dict_pop (i6 (ho c_ s σ H _ I h) fun u s1 iF=>?_)
 obtain⟨x,H1,I1,rx,a,ex,d,q1⟩:=iF
 subst ex
 obtain rfl:u=Value.ref a:=rx
 obtain⟨t1,t2,_⟩:=zh I1 d
 refine⟨t1,t2,?_⟩
 rw[m.trees]
 refine abl rfl (aby (abj (i6 (he c_ s1 σ H1 _ I1 q1) fun iv s2 iF=>?_)))
 obtain⟨y,H2,I2,ry,b,kvs,k,v,ey,ha,hb,l,q2⟩:=iF
 refine abB ?_
 subst ey
 obtain rfl:iv=Value.ref b:=ry
 exact Pk hu I2 ha hb l fun w' s3 I3 Bp=>⟨v,_,I3,Bp,q2⟩
theorem HJ{a:Expr}{ta:TE}(ha:PE X a ta)(he:∀whole,isTrue a X.env whole=(do let v ←whole;standAt a.pos;holding [v] (truthy v))) :
  PT X a (fun σ H Q=>ta σ H fun x H'=>∃p kvs,x=.ref p∧H' p=some (.dT kvs)∧Q (!kvs.isEmpty) H'):=by
 intro c_ s σ H Q I h
 refine isTrue_plain (i6 (ha c_ s σ H _ I h) fun v s1 iF=>?_) (he _)
 obtain⟨x,H1,I1,r1,p,kvs,ex,hp,q⟩:=iF
 subst ex
 obtain rfl:v=Value.ref p:=r1
 obtain⟨lo,hz,es,ep,raw,sz,_⟩:=zx (I1.iH p _ hp)
 have hs:sizeLine=16777216:=sizeLine_eq
 refine FQ lo raw (by omega) ?_
 have e:((es.size:Int) != 0)=!kvs.isEmpty:=by rw[sz];cases kvs<;>simp<;>omega
 rw[e]
 exact⟨H1,I1.tok _,q⟩
end
theorem HK:bootBuiltins "enumerate"=some (.type "enumerate"):=by decide+kernel
section
variable{X:Cx}{c_:Qqz}{σ:St}{H:Hp}{s:Shared}{h':Heap}
theorem Inv.Mn{t':Nat}{a b:Addr}(I:Inv X c_ σ H s)(k:∀c o,c≠a→c≠b→s.heap.get? c=some o→h'.get? c=some o)(fa:ug X c_ H a)(fb:ug X c_ H b)
  (ha:∃o,h'.get? a=some o) (hb:∃o,h'.get? b=some o):Inv X c_ σ H {s with heap:=h',toks:=t'}:=by
 obtain⟨a0,a1,a2,a3,a4,a5⟩:=fa
 obtain⟨b0,b1,b2,b3,b4,b5⟩:=fb
 have na:∀c u,H c=some u→c≠a:=fun c u e z=>by rw[z,a0] at e;cases e
 have nb:∀c u,H c=some u→c≠b:=fun c u e z=>by rw[z,b0] at e;cases e
 have out:∀c,c∉[a,b]→c≠a∧c≠b:=fun c hc=>⟨fun z=>hc (by simp[z]),fun z=>hc (by simp[z])⟩
 refine I.step (g':=s.gens) (d':=s.drawn) (ch:=[a,b]) (fun c hc=>?_) (fun c o _ _ hc e _=>k c o (out c hc).1 (out c hc).2 e) (fun c o _ _ hc e _=>⟨o.slots,k c o (out c hc).1 (out c hc).2 e⟩) (fun _ _ _ _ n=>n)
  (fun c o hc e=>⟨o,k c o (out c hc).1 (out c hc).2 e⟩) (fun _ _ e=>e) (fun _ _ _ e=>e) (fun c ps e=>⟨#[],by rw[e];simp⟩) (fun m hm=>?_) (fun c u e=>?_) I.bare
 ·rcases Z8.mp hc with z|z
  ·rw[z];exact⟨a3,a1,a4,a5⟩
  ·rw[WG.mp z];exact⟨b3,b1,b4,b5⟩
 ·obtain⟨o,es,ep,ho,r⟩:=hm
  exact⟨o,es,ep,k _ o (abK a1) (abK b1) ho,r⟩
 ·refine(I.iH c u e).yY (fun d v hd q=>k d v ?_ ?_ q) (fun _ q=>q) fun _ _ q=>q
  ·rcases hd with z|z
   ·rw[z];exact na c u e
   ·exact na d _ z
  ·rcases hd with z|z
   ·rw[z];exact nb c u e
   ·exact nb d _ z
end
def Su(t:TT):TT:=fun σ H Q=>∃M:Bool→Hp→Prop,t σ H M∧∀b H',M b H'→Q b H'
theorem FR{X:Cx}{e:Expr}{t:TT}(h:PT X e t):PT X e (Su t):=fun c_ s σ H Q I ⟨M,h1,h2⟩=>i6 (h c_ s σ H M I h1) fun b s' ⟨H',I',q⟩=>⟨H',I',h2 b H' q⟩
noncomputable def Sv(K:Qqy)(a:Addr):It:=
 ⟨fun i H=>∃xs x,gH K H a xs∧xs[i]?=some x,fun i H x H'=>∃t y,H t=none∧x=.ref t∧H'=upd H t (.tup [.int i,y])∧∀xs,gH K H a xs→xs[i]?=some y,fun i H=>∃xs,gH K H a xs∧xs.length≤i⟩
theorem HL{P:Program}{w:World}{K:Qqy}{elts:List Expr}{x1}{pos:Pos}(a e it:Addr)(rB:e≠it):Turn P w K (.Tuple elts x1 pos) (Sv K a) [e,it] e (fun i h=>(∃old,IsEnum h e it ((i:Nat):Int) old)∧h.IsListIter it a i) where
 mem:=by simp
 obj:=fun i h ⟨⟨old,IG⟩,Bo⟩ b hb=>by
  rcases Z8.mp hb with z|z
  ·subst z;exact⟨_,IG,fun v z=>by have z':Data.fields _=Data.cell v:=z;cases z'⟩
  ·rw[WG.mp z]
   obtain⟨o,ho,c,d⟩:=Bo
   exact⟨o,ho,fun v z=>by rw[d] at z;cases z⟩
 keep:=fun i h h' ⟨⟨old,IG⟩,Bo⟩ k=>⟨⟨old,k e (by simp) _ IG⟩,Bo.at fun o ho=>k it (by simp) o ho⟩
 item:=by
  intro X hP hw hK hc i c_ s σ H E I hf ⟨⟨old,IG⟩,Bo⟩ hg
  subst hP hw hK
  obtain⟨xs,x,hq,hx⟩:=hg
  obtain⟨h_,rv,p,hz⟩:=I.list hq
  obtain⟨u,hu,ru⟩:=rv.get hx
  have fe:=hf e (by simp)
  have fi:=hf it (by simp)
  have Xz:e<s.heap.objs.size:=aau IG
  refine wpAny_pyNext_enum_item IG Bo p.isList (x:=u) (by simpa using hu) rB fun h₁ K2 XA ht₁ hz₁ hk₁=>?_
  refine⟨_,rfl,?_⟩
  refine wpAny_letOwnedTupleGo_enum K2 fun h₂ he₂ TQ=>?_
  replace TQ:Heap.SameBut e h₁ h₂:=TQ
  have ht₂:h₂.get? s.heap.objs.size=some {cls:=.type "tuple",data:=.seq #[.int i s.toks,u]}:=(TQ.2 _ (Nat.ne_of_gt Xz)).trans ht₁
  have TR:h₂.IsListIter it a (i+1):=XA.extBut TQ.extBut (abK rB)
  have hfr:H s.heap.objs.size=none:=I.iH.fresh (WL _)
  have rT:Vals [.int i,x] [.int i s.toks,u]:=.cons ⟨s.toks,rfl⟩ (.cons ru .nil)
  have I1:Inv X c_ σ (upd H s.heap.objs.size (.tup [.int i,x])) {s with heap:=s.heap.push {cls:=.type "tuple",data:=.seq #[.int i s.toks,u]},toks:=s.toks}:=
   I.laid (t':=s.toks) (fun b u e=>aab _ e) (WL _) ⟨L2.jA,_,rT,⟨_,aav _ rfl,rfl,_,rfl⟩⟩
  have up:∀b,ug X c_ H b→b<s.heap.objs.size→ug X c_ (upd H s.heap.objs.size (.tup [.int i,x])) b:=fun b f hb=>by
   obtain⟨f0,r⟩:=f
   exact⟨by rw[e_ (aaU hb)];exact f0,r⟩
  have N8:it<s.heap.objs.size:=by obtain⟨o,ho,_⟩:=id Bo;exact aau ho
  obtain⟨oi,Vp,_⟩:=id TR
  have I2:=I1.Mn (h':=h₂) (t':=s.toks+1) (a:=e) (b:=it) (fun c o h1 h2 hc=>?_) (up e fe Xz) (up it fi N8) ⟨_,he₂⟩ ⟨oi,Vp⟩
  ·refine⟨.ref s.heap.objs.size,_,I2,rfl,⟨_,x,hfr,rfl,rfl,fun ys hy=>by rw[I.pI hy hq];exact hx⟩,⟨⟨u,?_⟩,TR⟩,fun b hb=>?_⟩
   ·have:((i+1:Nat):Int)=(i:Int)+1:=by push_cast;rfl
    rw[this];exact he₂
   ·rcases Z8.mp hb with z|z
    ·subst z;exact(up _ fe Xz).1
    ·rw[WG.mp z];exact(up it fi N8).1
  ·by_cases hcs:c=s.heap.objs.size
   ·subst hcs
    have:(s.heap.push {cls:=.type "tuple",data:=.seq #[.int i s.toks,u]}).get? s.heap.objs.size=some {cls:=.type "tuple",data:=.seq #[.int i s.toks,u]}:=aav _ rfl
    rw[this] at hc;cases hc
    exact ht₂
   ·have B4:s.heap.get? c=some o:=(Heap.get?_push_cases hc).elim (fun z=>absurd z.1 hcs) id
    exact(TQ.2 c h1).trans (hk₁ c o h1 h2 B4)
 done:=by
  intro X hP hw hK hc i c_ s σ H E I hf ⟨⟨old,IG⟩,Bo⟩ hg
  subst hP hw hK
  obtain⟨xs,hq,hx⟩:=hg
  obtain⟨h_,rv,p,hz⟩:=I.list hq
  obtain⟨f0,f1,f2,f3,f4,f5⟩:=hf it (by simp)
  have hl:=rv.length
  exact wpAny_pyNext_enum_end (I.ok.hd hc) IG Bo p.isList (Array.getElem?_eq_none (by simp;omega)) fun h' eb=>⟨rfl,I.turned (t':=s.toks) (fun b o hb e=>eb b o hb e) f0 f1 f3 f4 f5⟩
 self:=fun _ _ _ _ _ ⟨⟨old,IG⟩,Bo⟩ h=>wpAny_pyIter_enum IG h
def Sw(K:Qqy)(ta:TA):TI:=fun σ H R=>ta σ H fun vs H1=>∃a,vs=[.ref a]∧(∃xs,gH K H1 a xs)∧R (Sv K a) H1
section
variable{X:Cx}
theorem Mo{a:Expr}{ta:TA}{p pos:Pos}{elts:List Expr}{x1}{Qr:Pos}(hg:Gl X "enumerate")(hm:X.mg "enumerate"=none)(ha:PA X [a] ta)(hs:starEach [a] X.env=[(false,eval a X.env)]:=by rfl):PI X (.Tuple elts x1 Qr) (.Call (.Name "enumerate" p) [a] [] pos) (Sw X.K ta):=by
 intro c_ s σ H R I h
 refine Call_ (nN I hg hm HK (aaZ (i6 (ha pos c_ s σ H _ I h) fun us s1 iF=>?_) hs rfl))
 obtain⟨vs,H1,I1,r1,q1⟩:=iF
 obtain⟨l,rfl,⟨xs,hq⟩,q⟩:=q1
 obtain⟨u,rfl,ru⟩:=vals1 r1
 cases (show u=Value.ref l from ru)
 obtain⟨h_,rv,pp,hz⟩:=I1.list hq
 refine call_enumerate_list pp.isList fun h' he hit hsz hk=>?_
 have I2:Inv X c_ σ H1 {s1 with heap:=h'}:=I1.kept (t':=s1.toks) hk
 refine wpAny_pyIter_enum he ?_
 refine⟨s1.heap.objs.size+1,[s1.heap.objs.size+1,s1.heap.objs.size],_,_,H1,rfl,I2,HL l (s1.heap.objs.size+1) s1.heap.objs.size (Nat.succ_ne_self _),⟨⟨_,he⟩,hit⟩,fun b hb=>?_,q⟩
 rcases Z8.mp hb with z|z
 ·subst z;exact I1.y6 (by omega) (I1.iH.fresh (by omega))
 ·rw[WG.mp z];exact I1.y6 (WL _) (I1.iH.fresh (WL _))
theorem J2{K:PySem.W.Frag}{a:Addr}{xs:List V}{g:TG}{tb:TS}{D:Ends}{σ:St}{H:Hp}(Pv:Nat→St→Hp→Prop)(h0:Pv 0 σ H)(hl:∀i σ H,i≤xs.length→Pv i σ H→gH K H a xs)
  (hs:∀i x t σ H,xs[i]?=some x→Pv i σ H→H t=none→g (.ref t) σ (upd H t (.tup [.int i,x])) fun σ2 H2=>tb {D with nx:=Pv (i+1),ct:=Pv (i+1),bk:=D.nx} σ2 H2) (hd:∀σ H,Pv xs.length σ H→D.nx σ H) :
  ∃W:Nat→Nat→St→Hp→Prop,(∃m,W 0 m σ H)∧∀i m σ H,W i m σ H→
   ((Sv K a).stop i H∧D.nx σ H)∨((Sv K a).go i H∧∃N:St→Hp→Prop,(∀σ' H',N σ' H'→∃m',m'<m∧W (i+1) m' σ' H')∧∀x H',(Sv K a).Jg i H x H'→g x σ H' fun σ2 H2=>tb {D with nx:=N,ct:=N,bk:=D.nx} σ2 H2):=by
 refine⟨fun i m σ H=>m=xs.length-i∧i≤xs.length∧Pv i σ H,⟨xs.length,by simp,aaz _,h0⟩,?_⟩
 rintro i m σ H ⟨rfl,hi,p⟩
 have q:=hl i σ H hi p
 by_cases jQ:i<xs.length
 ·refine .inr ⟨⟨xs,xs[i],q,TZ jQ⟩,Pv (i+1),fun σ' H' p'=>⟨xs.length-(i+1),by omega,rfl,jQ,p'⟩,fun x H' y=>?_⟩
  obtain⟨t,z,ht,rfl,rfl,y⟩:=y
  exact hs i z t σ _ (y xs q) p ht
 ·have e:i=xs.length:=by omega
  subst e
  exact .inl ⟨⟨xs,q,WL _⟩,hd σ H p⟩
end
structure DF(K:Qqy)(mg:Qqx)(x:Str)(st:Stmt)(a:Addr)(d:FuncData)(ps:List Str):Prop where
 f:xv K x x st a d
 b:Binds K d ps []
 m:mg x=some (.ref a)
structure DM(K:Qqy)(C:Addr)(x q:Str)(st:Stmt)(a:Addr)(d:FuncData)(ps:List Str):Prop where
 f:xv K x q st a d
 b:Binds K d ps []
 t:Meth K C x a
def FI(K:Qqy)(x:Str)(st:Stmt)(f:Addr):Prop:=W.nsIn K mainGlobals x=some (some (.ref f))∧∃d,xv K x x st f d
def MI(K:Qqy)(C:Addr)(x q:Str)(st:Stmt)(f:Addr):Prop:=Meth K C x f∧∃d,xv K x q st f d
section
variable{K:Qqy}{x q:Str}{st:Stmt}{f C:Addr}{oc kV doc pm jl ct:Value}{od an:Option Addr}{IQ:Array (Option Value)}
theorem Sx(a:W.nsIn K mainGlobals x=some (some (.ref f)))(l:K.lookup f=some ⟨oc,od,.func (W.fnOf x x (oC st) (lb st) (f_ st) .none kV doc pm an jl ct),IQ⟩)(c:W.codeIn K jl x=true)(k:W.keepIn K (.ref f)=true):FI K x st f:=⟨a,_,JA l c k⟩
theorem Sy(a:W.findIn K (.ref C) x=some (some (.ref f)))(i:W.isFn K (.ref f)=true)(l:K.lookup f=some ⟨oc,od,.func (W.fnOf x q (oC st) (lb st) (f_ st) .none kV doc pm an jl ct),IQ⟩)(c:W.codeIn K jl q=true)(k:W.keepIn K (.ref f)=true):MI K C x q st f:=⟨⟨a,i,k⟩,_,JA l c k⟩
end
theorem J3{X:Cx}{st:Stmt}{t:TS}(h:PS X st t):PS X st (fun D σ H=>∃d o u,H d=some (.nq o u)∧zv X d∧t D σ (upd H d u)):=fun c_ s σ H D I ⟨d,o,u,hd,nf,q⟩=>h c_ s σ _ D (I.wB hd nf) q
noncomputable def Z7(N P:List Str)(sc:Scope):Bool:=decide (sc.kind=.function)&&!sc.isCoroutine&&!sc.isGenerator&&decide N.Nodup&&decide (N.take P.length=P)&&P.all (fun x=>decide (sc.names.lookup x=some .local)||decide (sc.names.lookup x=some .cell))&&sc.names.all (fun y=>decide (y.2≠.free))
theorem mw{N P:List Str}{sc:Scope}(h:Z7 N P sc=true:=by decide+kernel):gv N P sc:=by
 unfold Z7 at h
 simp only [abf,abV,Bool.not_eq_true',abL,aco] at h
 obtain⟨⟨⟨⟨⟨⟨a,b⟩,c⟩,d⟩,e⟩,f⟩,g⟩:=h
 exact⟨a,b,c,d,e,f,g⟩
section
variable{X:Cx}{x q m:Str}{st:Stmt}{f C:Addr}{fd:FuncData}{ps:List Str}{sp:Sp}{k j:Nat}{e o:Expr}{es:List Expr}{t:TA}{ta:TE}{p pos apos:Pos}{E:XK}
theorem o_(D:DF X.K X.mg x st f fd ps)(F:ij X.prog X.w X.K X.mg X.base mr k f fd ps sp)(hr:kE j X.A)(ha:PA X (e::es) t)(hk:k≤j:=by decide)(hg:Gl X x:=by rfl)(Gu:(x ==("__debug__":Str))=false:=by decide)(he:starEach (e::es) X.env=(false,eval e X.env)::starEach es X.env:=by rfl)(qi:(backTo pos (starEach es X.env)).any (·.1)=false:=by rfl):PE X (.Call (.Name x p) (e::es) [] pos) (Jl sp [] E0 t):=uU F (hr.mono hk) hg D.m D.f.kp D.b .nil nU ha Gu he qi
theorem WK(b:Bx X E)(D:DF X.K X.mg x st f fd ps)(F:ij X.prog X.w X.K X.mg X.base (tK X.prog X.w) k f fd ps sp)(hr:kE j X.A)(ha:PA X (e::es) t)(hk:k≤j:=by decide)(hg:Gl X x:=by rfl)(Gu:(x ==("__debug__":Str))=false:=by decide)(he:starEach (e::es) X.env=(false,eval e X.env)::starEach es X.env:=by rfl)(qi:(backTo pos (starEach es X.env)).any (·.1)=false:=by rfl):PE X (.Call (.Name x p) (e::es) [] pos) (Jl sp [] E t):=uU F (hr.mono hk) hg D.m D.f.kp D.b .nil (NI b) ha Gu he qi
theorem uZ{pl:Sem Bool}(h:PE X o ta)(c:Fn X.K C)(D:DM X.K C m q st f fd ps)(F:ij X.prog X.w X.K X.mg X.base mr k f fd ps sp)(hr:kE j X.A)(ha:PA X (e::es) t)(hk:k≤j:=by decide)(rE:starEach (e::es) X.env=(false,eval e X.env)::starEach es X.env:=by rfl)(qi:(backTo pos (starEach es X.env)).any (·.1)=false:=by rfl)
 (ht:eval (.Call (.Attribute o m apos) (e::es) [] pos) X.env=(do
  let ov ←eval o X.env
  standAt apos.atName
  let (f,first) ←holding [ov] (getMethod ov m pl)
  callWith pos f first (backTo pos (starEach (e::es) X.env)) (backToKw pos (keywordEach [] X.env))):=by rfl):PE X (.Call (.Attribute o m apos) (e::es) [] pos) (GJ C m sp [] E0 ta t):=GK h c D.t F (hr.mono hk) D.b .nil nU ha rE qi ht
theorem AW(b:Bx X E){pl:Sem Bool}(h:PE X o ta)(c:Fn X.K C)(D:DM X.K C m q st f fd ps)(F:ij X.prog X.w X.K X.mg X.base (tK X.prog X.w) k f fd ps sp)(hr:kE j X.A)(ha:PA X (e::es) t)(hk:k≤j:=by decide)(rE:starEach (e::es) X.env=(false,eval e X.env)::starEach es X.env:=by rfl)(qi:(backTo pos (starEach es X.env)).any (·.1)=false:=by rfl)
 (ht:eval (.Call (.Attribute o m apos) (e::es) [] pos) X.env=(do
  let ov ←eval o X.env
  standAt apos.atName
  let (f,first) ←holding [ov] (getMethod ov m pl)
  callWith pos f first (backTo pos (starEach (e::es) X.env)) (backToKw pos (keywordEach [] X.env))):=by rfl):PE X (.Call (.Attribute o m apos) (e::es) [] pos) (GJ C m sp [] E ta t):=GK h c D.t F (hr.mono hk) D.b .nil (NI b) ha rE qi ht
end
section
variable{P:Program}{w:World}{K:Qqy}{mg:Qqx}{base:Heap}
theorem xv.qr{x qual:Str}{st:Stmt}{f:Addr}{fd:FuncData}{N ps:List Str}{k:Nat}{sp:Sp}(F:xv K x qual st f fd)(S:gv N ps (f_ st))(vX:∀(jl:Value)(A:Around)(outer:List Env)(s:Shared)(H:Hp)(vs:List V)(Q:VK)(E:XK),kE k (A.deeper (envOfC qual (f_ st) s.heap.objs.size f jl))→sp vs H Q E→∃t,Fm (wo mr P w K mg base N qual (f_ st) f jl A outer s H E).RW (lb st) t∧t {nx:=fun _ H'=>Q .jm H',rt:=Q} (start N vs) H)(len:∀vs H Q E,sp vs H Q E→vs.length=ps.length:=by intro _ _ _ _ h;repeat (first|(obtain⟨rfl,_⟩:=h;rfl)|obtain⟨_,h⟩:=h)):ij P w K mg base mr (k+1) f fd ps sp:=F.ok S len vX
theorem xv.qt{x qual:Str}{st:Stmt}{f:Addr}{fd:FuncData}{N ps:List Str}{k:Nat}{sp:Sp}(F:xv K x qual st f fd)(S:gv N ps (f_ st))(vX:∀(jl:Value)(A:Around)(outer:List Env)(s:Shared)(H:Hp)(vs:List V)(Q:VK)(E:XK),kE k (A.deeper (envOfC qual (f_ st) s.heap.objs.size f jl))→sp vs H Q E→∃t,Fm (wo (tK P w) P w K mg base N qual (f_ st) f jl A outer s H E) (lb st) t∧t {nx:=fun _ H'=>Q .jm H',rt:=Q} (start N vs) H)(len:∀vs H Q E,sp vs H Q E→vs.length=ps.length:=by intro _ _ _ _ h;repeat (first|(obtain⟨rfl,_⟩:=h;rfl)|obtain⟨_,h⟩:=h)):ij P w K mg base (tK P w) (k+1) f fd ps sp:=F.ok1 S len vX
end
section
variable{X:Cx}{pos:Pos}
theorem kW(i:Nat){x:Str}{e:Expr}{te:TE}{pos':Pos}{N ps:List Str}{sc:Scope}(S:gv N ps sc)(he:PE X e te)(hN:X.N=N:=by rfl)(hi:X.N[i]?=some x:=by rfl)(hx:X.env.scope.names.lookup x=some .local:=by rfl)(hs:swapsWith e (some (.Name x pos')) pos.line X.env=pure false:=by rfl):PS X (.Assign [.Name x pos'] e pos) (Jf te (mB i)):=lq (hN▸S.nd) hi (.inl hx) he hs (.inr hx)
theorem qY(i:Nat){x:Str}{N ps:List Str}{sc:Scope}(S:gv N ps sc)(hN:X.N=N:=by rfl)(hi:X.N[i]?=some x:=by rfl)(hx:X.env.scope.names.lookup x=some .local:=by rfl):PG X (.Name x pos) (mB i):=iw (hN▸S.nd) hi (.inl hx) (.inr hx)
end
section
variable{K:Qqy}
theorem xv.bd{x qual:Str}{st:Stmt}{f:Addr}{fd:FuncData}{ps:List Str}(F:xv K x qual st f fd)(h:∀(kV doc pm:Value)(an:Option Addr)(jl ct:Value)(us:List Value),us.length=ps.length→bindArgs (W.fnOf x qual (oC st) (lb st) (f_ st) .none kV doc pm an jl ct) ⟨us,[]⟩=pure (ps.zip us):=by intro _ _ _ _ _ _ us hl;(repeat (rcases us with _|⟨_,us⟩<;>first|(simp at hl;done)|skip));rfl):Binds K fd ps []:=F.binds h
end
section
variable{X:Cx}{a b:Expr}{ta tb:TE}{pos:Pos}{k:Nat}
theorem pE(ha:PE X a ta)(hb:PE X b tb)(hs:GN b:=by exact fun _ _=>rfl):PE X (.Subscript a b pos) (R6 (Se X.K) ta tb):=j5 kL ha hb hs
theorem zz(hr:kE k X.A)(ha:PE X a ta)(hb:PE X b tb)(hs:O0 b:=by exact fun _ _=>rfl):PE X (.Subscript a b pos) (NG ta tb):=L_ (iG hr) ha hb hs
theorem AX(h:PE X a ta)(e:ta=tb:=by(try simp only [ku]);rfl):∃t,PE X a t∧t=tb:=⟨_,h,e⟩
end
end L2
namespace K01
section
variable{α:Type}[DecidableEq α]
noncomputable def lcs:List α→List α→Nat
 | [],_=>0
 | _::_,[]=>0
 | a::as,b::bs=>if b=a then lcs as bs+1 else max (lcs as (b::bs)) (lcs (a::as) bs)
termination_by x y=>x.length+y.length
def n1(x y:List α)(n:Nat):Prop:=(∀s:List α,s.Sublist x→s.Sublist y→s.length≤n)∧∃s:List α,s.Sublist x∧s.Sublist y∧s.length=n
theorem n1.uniq{x y:List α}{n m:Nat}(h:n1 x y n)(g:n1 x y m):n=m:=by
 obtain⟨h1,s,a,b,e⟩:=h
 obtain⟨g1,t,c,d,f⟩:=g
 have:=g1 s a b
 have:=h1 t c d
 omega
theorem n1.Et(y:List α):n1 [] y 0:=⟨fun s a _=>by have:=a.length_le;simpa using this,[],aaF _,List.nil_sublist _,rfl⟩
theorem n1.BK(x:List α):n1 x [] 0:=⟨fun s _ b=>by have:=b.length_le;simpa using this,[],List.nil_sublist _,aaF _,rfl⟩
theorem lG{s as:List α}{a:α}(h:s.Sublist (a::as)):s.Sublist as∨∃t,s=a::t∧t.Sublist as:=by
 cases h with
 | cons _ h=>exact .inl h
 | cons_cons _ h=>exact .inr ⟨_,rfl,h⟩
theorem n1.eq{as bs:List α}{a:α}{n:Nat}(h:n1 as bs n):n1 (a::as) (a::bs) (n+1):=by
 obtain⟨h1,s,x,y,e⟩:=h
 refine⟨fun t c d=>?_,a::s,x.cons_cons a,y.cons_cons a,by rw[aac,e]⟩
 rcases lG c with c2|⟨u,e2,c2⟩
 ·rcases lG d with d2|⟨v,e3,d2⟩
  ·have:=h1 t c2 d2;omega
  ·subst e3
   have:=h1 v ((abz a v).trans c2) d2
   rw[aac];omega
 ·have d':u.Sublist bs:=by
   subst e2
   rcases lG d with d2|⟨v,e',d2⟩
   ·exact(abz a u).trans d2
   ·cases e';exact d2
  have:=h1 u c2 d'
  subst e2
  rw[aac];omega
theorem n1.ne{as bs:List α}{a b:α}{n m:Nat}(Hh:a≠b)(h:n1 as (b::bs) n)(g:n1 (a::as) bs m):n1 (a::as) (b::bs) (max n m):=by
 obtain⟨h1,s,x,y,e⟩:=h
 obtain⟨g1,s',x',y',e'⟩:=g
 refine⟨fun t c d=>?_,?_⟩
 ·rcases lG c with c'|⟨u,rfl,_⟩
  ·have:=h1 t c' d;omega
  ·rcases lG d with d'|⟨v,e,_⟩
   ·have:=g1 _ c d';omega
   ·cases e;exact absurd rfl Hh
 ·by_cases Vq:m≤n
  ·exact⟨s,x.cons a,y,by omega⟩
  ·exact⟨s',x',y'.cons b,by omega⟩
theorem j8:∀x y:List α,n1 x y (lcs x y)
 | [],y=>by rw[lcs];exact .Et y
 | a::as,[]=>by rw[lcs];exact .BK _
 | a::as,b::bs=>by
  rw[lcs]
  by_cases h:b=a
  ·rw[aar h];subst h;exact(j8 as bs).eq
  ·rw[aap h];exact .ne (fun e=>h e.symm) (j8 as (b::bs)) (j8 (a::as) bs)
termination_by x y=>x.length+y.length
theorem Mp(x:List α):lcs x []=0:=(j8 x []).uniq (.BK x)
theorem GS(y:List α):lcs [] y=0:=(j8 [] y).uniq (.Et y)
theorem zA{x x' y y':List α}(h:x.Sublist x')(g:y.Sublist y'):lcs x y≤lcs x' y':=by
 obtain⟨_,s,a,b,e⟩:=j8 x y
 rw[←e]
 exact(j8 x' y').1 s (a.trans h) (b.trans g)
theorem Eu(x y:List α):lcs x y≤x.length:=by
 obtain⟨_,s,a,b,e⟩:=j8 x y
 rw[←e];exact a.length_le
noncomputable def ja(a:α)(new:List α)(j:Nat):Option Nat:=((new.drop j).findIdx? (·=a)).map (j+·)
noncomputable def pN(new:List α):Nat→List α→Nat→List (Nat×Nat)
 | _,[],_=>[]
 | i,a::as,j=>match ja a new j with
  | none=>pN new (i+1) as j
  | some k=>if lcs as (new.drop (k+1))+1=lcs (a::as) (new.drop j) then(i,k)::pN new (i+1) as (k+1) else pN new (i+1) as j
noncomputable def kept(old new:List α):List (Nat×Nat):=pN new 0 old 0
theorem kG{a:α}{new:List α}{j k:Nat}(h:ja a new j=some k):j≤k∧new[k]?=some a∧∀l,j≤l→l<k→new[l]?≠some a:=by
 unfold ja at h
 cases e:(new.drop j).findIdx? (·=a) with
 | none=>rw[e] at h;cases h
 | some d=>
  rw[e] at h
  have h:j+d=k:=aaA h
  subst h
  obtain⟨hd,h1,h2⟩:=List.findIdx?_eq_some_iff_getElem.mp e
  have h1:(new.drop j)[d]=a:=by simpa using h1
  refine⟨Nat.le_add_right _ _,?_,fun l hl hk q=>?_⟩
  ·rw[←ab6,TZ hd,h1]
  ·have:=h2 (l-j) (by omega)
   have hq:(new.drop j)[l-j]?=some a:=by rw[ab6,show j+(l-j)=l by omega];exact q
   obtain⟨hh,he⟩:=List.getElem?_eq_some_iff.mp hq
   simp[he] at this
theorem n4{a:α}{new:List α}{j:Nat}(h:ja a new j=none):∀l,j≤l→new[l]?≠some a:=by
 unfold ja at h
 cases e:(new.drop j).findIdx? (·=a) with
 | some d=>rw[e] at h;cases h
 | none=>
  intro l hl q
  have hq:(new.drop j)[l-j]?=some a:=by rw[ab6,show j+(l-j)=l by omega];exact q
  have:=List.findIdx?_eq_none_iff.mp e a (WI hq)
  simp at this
theorem J4{a:α}{as y:List α}(h:a∉y):lcs (a::as) y=lcs as y:=by
 refine(j8 (a::as) y).uniq ⟨fun s c d=>?_,?_⟩
 ·rcases lG c with c|⟨t,rfl,c⟩
  ·exact(j8 as y).1 s c d
  ·exact absurd (d.subset aal) h
 ·obtain⟨_,s,c,d,e⟩:=j8 as y
  exact⟨s,c.cons a,d,e⟩
theorem qu{new:List α}{k:Nat}{a:α}(h:new[k]?=some a):new.drop k=a::new.drop (k+1):=by
 obtain⟨hk,e⟩:=List.getElem?_eq_some_iff.mp h
 rw[aaT hk,e]
theorem zB{new:List α}{j k:Nat}(h:j≤k):(new.drop k).Sublist (new.drop j):=by
 have:new.drop k=(new.drop j).drop (k-j):=by rw[List.drop_drop];congr 1;omega
 rw[this];exact List.drop_sublist _ _
theorem Cu{a:α}{as new:List α}{j l:Nat}(hl:j≤l)(h:new[l]?=some a):lcs as (new.drop (l+1))+1≤lcs (a::as) (new.drop j):=by
 have:lcs (a::as) (new.drop l)≤lcs (a::as) (new.drop j):=zA (aaF _) (zB hl)
 rw[qu h,lcs,aar rfl] at this
 exact this
theorem zC{a:α}{as new:List α}{j k:Nat}(h:ja a new j=some k)(rB:lcs as (new.drop (k+1))+1≠lcs (a::as) (new.drop j)):lcs (a::as) (new.drop j)=lcs as (new.drop j):=by
 obtain⟨TV,hk,Ni⟩:=kG h
 have h1:=Cu (as:=as) TV hk
 have h2:lcs as (new.drop j)≤lcs (a::as) (new.drop j):=zA (abz a as) (aaF _)
 obtain⟨hs,s,c,d,e⟩:=j8 (a::as) (new.drop j)
 rcases lG c with c2|⟨t,es,c2⟩
 ·have:=(j8 as (new.drop j)).1 s c2 d;omega
 ·exfalso
  subst es
  have key:∀(n:Nat)(j:Nat),k-j=n→j≤k→(∀l,j≤l→l<k→new[l]?≠some a)→(a::t).Sublist (new.drop j)→t.Sublist (new.drop (k+1)):=by
   intro n
   induction n with
   | zero=>
    intro j e1 e2 _ d
    have:j=k:=by omega
    subst this
    rw[qu hk] at d
    rcases lG d with d|⟨u,e,d⟩
    ·exact(abz a t).trans d
    ·cases e;exact d
   | succ n ih=>
    intro j e1 e2 hm d
    have hj:j<new.length:=by
     have:=(List.getElem?_eq_some_iff.mp hk).1;omega
    rw[aaT hj] at d
    rcases lG d with d|⟨u,e,_⟩
    ·exact ih (j+1) (by omega) (by omega) (fun l hl=>hm l (by omega)) d
    ·exfalso
     have e0:a=new[j]:=(List.cons.inj e).1
     exact hm j (WL _) (by omega) (by rw[TZ hj,←e0])
  have ht:=key _ j rfl TV Ni d
  have:=(j8 as (new.drop (k+1))).1 t c2 ht
  rw[aac] at e
  omega
theorem HM{a:α}{as new:List α}{j:Nat}(h:ja a new j=none):lcs (a::as) (new.drop j)=lcs as (new.drop j):=by
 refine J4 fun m=>?_
 obtain⟨l,hl⟩:=aaC.mp m
 rw[ab6] at hl
 exact n4 h (j+l) (Nat.le_add_right _ _) hl
theorem lH(new:List α):∀(old:List α)(i j:Nat),(pN new i old j).length=lcs old (new.drop j)
 | [],i,j=>by rw[pN,GS];rfl
 | a::as,i,j=>by
  unfold pN
  cases h:ja a new j with
  | none=>simp only;rw[lH new as,HM h]
  | some k=>
   simp only
   by_cases hc:lcs as (new.drop (k+1))+1=lcs (a::as) (new.drop j)
   ·rw[aar hc,aac,lH new as];exact hc
   ·rw[aap hc,lH new as,zC h hc]
inductive Good(old new:List α):Nat→Nat→List (Nat×Nat)→Prop
 | nil (i j):Good old new i j []
 | cons {i j p q r} (h1:i≤p) (h2:j≤q) (a:α) (e1:old[p]?=some a) (e2:new[q]?=some a)
  (h3:∀l m,i≤l→l≤p→j≤m→(l<p∨m<q)→∀b,old[l]?=some b→new[m]?=some b→¬r.length≤lcs (old.drop (l+1)) (new.drop (m+1)))
  (t:Good old new (p+1) (q+1) r):Good old new i j ((p,q)::r)
theorem Good.back{old new:List α}{i j:Nat}{a:α}{r:List (Nat×Nat)}(ha:old[i]?=some a)(hl:r.length=lcs (old.drop (i+1)) (new.drop j))(hn:∀m,j≤m→new[m]?=some a→lcs (old.drop (i+1)) (new.drop (m+1))+1≠r.length∧lcs (old.drop (i+1)) (new.drop (m+1))+1≤r.length)
  (h:Good old new (i+1) j r):Good old new i j r:=by
 cases h with
 | nil=>exact .nil _ _
 | @cons _ _ p q r h1 h2 b e1 e2 h3 t=>
  refine .cons (by omega) h2 b e1 e2 (fun l m XC K5 hm jQ c c1 c2 hle=>?_) t
  by_cases e:l=i
  ·subst e
   rw[ha] at c1
   cases c1
   have z:=hn m hm c2
   rw[aac] at z
   omega
  ·exact h3 l m (by omega) K5 hm jQ c c1 c2 hle
theorem qx{old new:List α}:∀(rest:List α)(i j:Nat),old.drop i=rest→Good old new i j (pN new i rest j)
 | [],i,j,_=>by rw[pN];exact .nil _ _
 | a::as,i,j,e=>by
  have ha:old[i]?=some a:=by
   have:(old.drop i)[0]?=some a:=by rw[e];rfl
   rwa [ab6,Nat.add_zero] at this
  have e':old.drop (i+1)=as:=by
   have:=qu ha;rw[e] at this;exact(List.cons.inj this).2.symm
  have L:=lH new as (i+1) j
  unfold pN
  cases h:ja a new j with
  | none=>
   simp only
   refine Good.back ha (by rw[L,e']) (fun m hm q=>absurd q (n4 h m hm)) (qx as (i+1) j e')
  | some k=>
   obtain⟨TV,hk,Ni⟩:=kG h
   simp only
   by_cases hc:lcs as (new.drop (k+1))+1=lcs (a::as) (new.drop j)
   ·rw[aar hc]
    refine .cons (WL _) TV a ha hk (fun l m XC K5 hm jQ b c1 c2 _=>?_) (qx as (i+1) (k+1) e')
    have:l=i:=by omega
    subst this
    rw[ha] at c1
    cases c1
    exact Ni m hm (by omega) c2
   ·rw[aap hc]
    have S:=zC h hc
    refine Good.back ha (by rw[L,e']) (fun m hm q=>?_) (qx as (i+1) j e')
    rw[L,e',←S]
    have h1:=Cu (as:=as) hm q
    refine⟨fun z=>?_,h1⟩
    have hkm:k≤m:=by
     rcases Nat.lt_or_ge m k with z'|z'
     ·exact absurd q (Ni m hm z')
     ·exact z'
    have h2:lcs as (new.drop (m+1))≤lcs as (new.drop (k+1)):=zA (aaF _) (zB (by omega))
    have h3:=Cu (as:=as) TV hk
    omega
theorem HN(old new:List α):Good old new 0 0 (kept old new):=qx old 0 0 rfl
theorem xA(old new:List α):(kept old new).length=lcs old new:=lH new old 0 0
noncomputable def pre(old new:List α)(i k:Nat):Nat:=lcs (old.take i) (new.take k)
noncomputable def wF(old new:List α)(i j:Nat):Nat:=lcs (old.drop i) (new.drop j)
theorem yO{old new:List α}{i j:Nat}(h:old.length≤i∨new.length≤j):wF old new i j=0:=by
 unfold wF
 rcases h with h|h
 ·rw[List.drop_eq_nil_of_le h,GS]
 ·rw[List.drop_eq_nil_of_le h,Mp]
theorem Mq{old new:List α}{i j:Nat}{a b:α}(ha:old[i]?=some a)(hb:new[j]?=some b) :
  wF old new i j=if b=a then wF old new (i+1) (j+1)+1 else max (wF old new (i+1) j) (wF old new i (j+1)):=by
 unfold wF
 rw[qu ha,qu hb,lcs,←qu ha,←qu hb]
end
end K01
namespace PM
open PySem
abbrev Nm:=Str×Nat
structure Ln where
 nm:Nm
 tx:Str
 up:Option Nm
 lo:Option Nm
 deriving DecidableEq
structure Pt where
 nm:Str
 file:Option Str
 iB:List Ln
 j9:List Nm
 other:Option Str
 deriving DecidableEq
noncomputable def nr:List Pt→List Str→List Pt
 | [],_=>[]
 | p::r,t=>if p.nm∈t then nr r t else p::nr r (match p.other with|some o=>o::t|none=>t)
noncomputable def live(ps:List Pt):List Pt:=(nr ps.reverse []).reverse
noncomputable def gE(ps:List Pt)(f:Str):List Ln:=(ps.filter fun p=>p.file=some f).flatMap (·.iB)
noncomputable def gone(ps:List Pt):List Nm:=ps.flatMap (·.j9)
noncomputable def k9(ps:List Pt)(f:Str):List Ln:=(gE (live ps) f).filter fun l=>l.nm∉gone (live ps)
theorem wG:∀(ps:List Pt)(t:List Str),(nr ps t).Sublist ps
 | [],_=>aaF _
 | p::r,t=>by
  unfold nr
  split
  ·exact(wG r t).cons p
  ·exact(wG r _).cons_cons p
theorem Ew(ps:List Pt):(live ps).Sublist ps:=by
 have:=(wG ps.reverse []).reverse
 rwa [List.reverse_reverse] at this
theorem Cv{ps qs:List Pt}(h:ps.Sublist qs)(f:Str):(gE ps f).Sublist (gE qs f):=by
 unfold gE
 have h:=h.filter (fun p=>decide (p.file=some f))
 generalize ps.filter _=a at h
 generalize qs.filter _=b at h
 induction h with
 | slnil=>exact aaF _
 | cons x _ ih=>rw[aaH];exact ih.trans (aa5 _ _)
 | cons_cons x _ ih=>rw[aaH,aaH];exact(aaF _).append ih
theorem kQ(ps:List Pt)(f:Str):(k9 ps f).Sublist (gE ps f):=
 aaO.trans (Cv (Ew ps) f)
def Sa(ls:List Ln)(m n:Nm):Prop:=∃l∈ls,(l.nm=n∧l.up=some m)∨(l.nm=m∧l.lo=some n)
inductive Ah(ls:List Ln):Nm→Nm→Prop
 | one {m n}:Sa ls m n→Ah ls m n
 | Po {m k n}:Ah ls m k→Sa ls k n→Ah ls m n
theorem Ah.trans{ls:List Ln}{m k n:Nm}(a:Ah ls m k)(b:Ah ls k n):Ah ls m n:=by
 induction b with
 | one h=>exact .Po a h
 | Po _ h ih=>exact .Po ih h
theorem Ah.last{ls:List Ln}{m n:Nm}:Ah ls m n↔Sa ls m n∨∃k,Ah ls m k∧Sa ls k n:=by
 constructor
 ·intro h
  cases h with
  | one x=>exact .inl x
  | Po a x=>exact .inr ⟨_,a,x⟩
 ·rintro(x|⟨k,a,x⟩)
  ·exact .one x
  ·exact .Po a x
def Rk(ls:List Ln)(rk:Nm→Nat):Prop:=∀l∈ls,(∀m,l.up=some m→rk m<rk l.nm)∧(∀m,l.lo=some m→rk l.nm<rk m)
def J6(ls:List Ln):Prop:=∃rk,Rk ls rk
theorem Rk.sa{ls:List Ln}{rk:Nm→Nat}(r:Rk ls rk){m n:Nm}(h:Sa ls m n):rk m<rk n:=by
 obtain⟨l,hl,⟨rfl,e⟩|⟨rfl,e⟩⟩:=h
 ·exact(r l hl).1 m e
 ·exact(r l hl).2 n e
theorem Rk.ah{ls:List Ln}{rk:Nm→Nat}(r:Rk ls rk){m n:Nm}(h:Ah ls m n):rk m<rk n:=by
 induction h with
 | one x=>exact r.sa x
 | Po _ x ih=>exact acp ih (r.sa x)
def qy(ls:List Ln):Prop:=∀l∈ls,(∀m,l.up=some m→m∈ls.map (·.nm))∧(∀m,l.lo=some m→m∈ls.map (·.nm))
theorem qy.sa{ls:List Ln}(c:qy ls){m n:Nm}(h:Sa ls m n):m∈ls.map (·.nm)∧n∈ls.map (·.nm):=by
 obtain⟨l,hl,⟨rfl,e⟩|⟨rfl,e⟩⟩:=h
 ·exact⟨(c l hl).1 m e,XE hl⟩
 ·exact⟨XE hl,(c l hl).2 n e⟩
theorem qy.ah{ls:List Ln}(c:qy ls){m n:Nm}(h:Ah ls m n):m∈ls.map (·.nm)∧n∈ls.map (·.nm):=by
 induction h with
 | one x=>exact c.sa x
 | Po _ x ih=>exact⟨ih.1,(c.sa x).2⟩
section
open Classical
variable(lt:Nm→Nm→Prop)
noncomputable def free(ls:List Ln)(l:Ln):Bool:=decide (∀o∈ls,¬lt o.nm l.nm)
noncomputable def qZ:Nat→List Ln→List Ln
 | 0,_=>[]
 | n+1,ls=>match ls.find? (free lt ls) with
  | none=>[]
  | some l=>l::qZ n (ls.filter fun o=>o.nm≠l.nm)
noncomputable def rowOf(ls:List Ln):List Ln:=qZ lt ls.length ls
def ltAt(row:List Ln)(i j:Nat):Prop:=∃a b,row[i]?=some a∧row[j]?=some b∧lt a.nm b.nm
noncomputable def jH(row:List Ln):List (Nat×Nat):=
 (List.range row.length).flatMap fun i=>((List.range' (i+1) (row.length-(i+1))).filter fun j=>decide (¬ltAt lt row i j)).map fun j=>(i,j)
variable{lt}
theorem rQ{rk:Nm→Nat}(hr:∀m n,lt m n→rk m<rk n):∀(ls:List Ln),ls≠[]→∃l,ls.find? (free lt ls)=some l:=by
 intro ls hn
 have least:∀(xs:List Ln),xs≠[]→∃l∈xs,∀o∈xs,rk l.nm≤rk o.nm:=by
  intro xs
  induction xs with
  | nil=>intro h;exact absurd rfl h
  | cons x r ih=>
   intro _
   by_cases h:r=[]
   ·subst h;exact⟨x,by simp,fun o ho=>by simp at ho;rw[ho];exact WL _⟩
   ·obtain⟨l,hl,hm⟩:=ih h
    by_cases hx:rk x.nm≤rk l.nm
    ·refine⟨x,by simp,fun o ho=>?_⟩
     rcases Z8.mp ho with rfl|ho
     ·exact WL _
     ·exact XI hx (hm o ho)
    ·refine⟨l,aae _ hl,fun o ho=>?_⟩
     rcases Z8.mp ho with rfl|ho
     ·omega
     ·exact hm o ho
 obtain⟨l,hl,hm⟩:=least ls hn
 have hf:free lt ls l=true:=WM fun o ho jQ=>by have:=hr _ _ jQ;have:=hm o ho;omega
 cases e:ls.find? (free lt ls) with
 | some x=>exact⟨x,rfl⟩
 | none=>exact absurd hf (by have:=List.find?_eq_none.mp e l hl;simpa using this)
theorem l9{ls:List Ln}(nd:(ls.map (·.nm)).Nodup){l:Ln}(hl:l∈ls):(ls.filter fun o=>o.nm≠l.nm).length+1=ls.length:=by
 induction ls with
 | nil=>cases hl
 | cons x r ih=>
  rw[aax,aa0] at nd
  rcases Z8.mp hl with rfl|hl
  ·have e:r.filter (fun o=>decide (o.nm≠l.nm))=r:=List.filter_eq_self.mpr fun o ho=>WM fun z=>nd.1 (z▸XE ho)
   rw[aad (by simp),e,aac]
  ·have hx:x.nm≠l.nm:=fun z=>nd.1 (z▸XE hl)
   rw[aaa (by simpa using hx),aac,aac,ih nd.2 hl]
theorem mQ{ls:List Ln}(nd:(ls.map (·.nm)).Nodup)(p:Ln→Bool):((ls.filter p).map (·.nm)).Nodup:=(aaO.map _).nodup nd
theorem um{rk:Nm→Nat}(hr:∀m n,lt m n→rk m<rk n):∀(n:Nat)(ls:List Ln),n=ls.length→(ls.map (·.nm)).Nodup→(qZ lt n ls).Perm ls
 | 0,ls,e,_=>by
  have:ls=[]:=aaG.mp e.symm
  subst this;exact List.Perm.refl _
 | n+1,ls,e,nd=>by
  have hn:ls≠[]:=fun z=>by subst z;cases e
  obtain⟨l,hf⟩:=rQ hr ls hn
  have hl:l∈ls:=List.mem_of_find?_eq_some hf
  unfold qZ
  rw[hf]
  have hlen:=l9 nd hl
  have ih:=um hr n (ls.filter fun o=>o.nm≠l.nm) (by omega) (mQ nd _)
  refine(ih.cons l).trans ?_
  clear ih hf hlen e hn
  induction ls with
  | nil=>cases hl
  | cons x r ih=>
   rw[aax,aa0] at nd
   rcases Z8.mp hl with rfl|hl
   ·have e:r.filter (fun o=>decide (o.nm≠l.nm))=r:=List.filter_eq_self.mpr fun o ho=>WM fun z=>nd.1 (z▸XE ho)
    rw[aad (by simp),e]
   ·have hx:x.nm≠l.nm:=fun z=>nd.1 (z▸XE hl)
    rw[aaa (by simpa using hx)]
    exact(List.Perm.swap _ _ _).trans ((ih nd.2 hl).cons x)
theorem zE{rk:Nm→Nat}(hr:∀m n,lt m n→rk m<rk n){ls:List Ln}(nd:(ls.map (·.nm)).Nodup):(rowOf lt ls).Perm ls:=um hr _ ls rfl nd
theorem u0{rk:Nm→Nat}(hr:∀m n,lt m n→rk m<rk n):∀(n:Nat)(ls:List Ln),n=ls.length→(ls.map (·.nm)).Nodup→(qZ lt n ls).Pairwise fun a b=>¬lt b.nm a.nm
 | 0,ls,_,_=>List.Pairwise.nil
 | n+1,ls,e,nd=>by
  have hn:ls≠[]:=fun z=>by subst z;cases e
  obtain⟨l,hf⟩:=rQ hr ls hn
  have hl:l∈ls:=List.mem_of_find?_eq_some hf
  have hlen:=l9 nd hl
  unfold qZ
  rw[hf]
  refine List.Pairwise.cons (fun b hb=>?_) (u0 hr n _ (by omega) (mQ nd _))
  have hb:=(um hr n (ls.filter fun o=>o.nm≠l.nm) (by omega) (mQ nd _)).subset hb
  have hp:=List.find?_some hf
  exact aak hp b (aao.mp hb).1
theorem Cw{rk:Nm→Nat}(hr:∀m n,lt m n→rk m<rk n){ls:List Ln}(nd:(ls.map (·.nm)).Nodup):(rowOf lt ls).Pairwise fun a b=>¬lt b.nm a.nm:=u0 hr _ ls rfl nd
end
noncomputable def Ex(sf:Nm→List Nm)(S:List Nm)(x:Nm):List Nm:=(sf x).filter fun y=>y∉S
inductive Run(sf:Nm→List Nm)(B:Nat):Nat→List Nm→List Nm→Prop
 | nil {S}:Run sf B 0 [] S
 | skip {n x st S}:x∈S→(x::st).length≤B→Run sf B n st S→Run sf B (n+1) (x::st) S
 | fin {n x st S}:x∉S→Ex sf S x=[]→(x::st).length≤B→Run sf B n st (S++[x])→Run sf B (n+1) (x::st) S
 | push {n x st S}:x∉S→Ex sf S x≠[]→(x::st).length≤B→Run sf B n ((Ex sf S x).reverse++x::st) S→Run sf B (n+1) (x::st) S
theorem Cy{sf:Nm→List Nm}{S:List Nm}{x:Nm}:Ex sf S x=[]↔∀y∈sf x,y∈S:=by
 unfold Ex
 rw[List.filter_eq_nil_iff]
 exact⟨fun h y hy=>by simpa using h y hy,fun h y hy=>by simpa using h y hy⟩
theorem Mr{sf:Nm→List Nm}{B N:Nat}(cr:Nm→Nat)(hN:∀x,(sf x).length≤N)(hc:∀x y,y∈sf x→cr y<cr x):∀(k:Nat)(x:Nm),cr x≤k→∀(st S:List Nm),st.length+1+N*cr x≤B→
  (∀S',(∀y∈S,y∈S')→x∈S'→∃n,Run sf B n st S')→∃n,Run sf B n (x::st) S:=by
 intro k
 induction k with
 | zero=>
  intro x hx st S hB go
  by_cases hm:x∈S
  ·obtain⟨n,r⟩:=go S (fun _ h=>h) hm
   exact⟨n+1,.skip hm (by rw[aac];omega) r⟩
  ·have e:Ex sf S x=[]:=Cy.mpr fun y hy=>by have:=hc x y hy;omega
   obtain⟨n,r⟩:=go (S++[x]) (fun _ h=>aas _ h) (by simp)
   exact⟨n+1,.fin hm e (by rw[aac];omega) r⟩
 | succ k ih=>
  intro x hx st S hB go
  have hlen:(x::st).length≤B:=by rw[aac];omega
  by_cases hm:x∈S
  ·obtain⟨n,r⟩:=go S (fun _ h=>h) hm
   exact⟨n+1,.skip hm hlen r⟩
  ·by_cases e:Ex sf S x=[]
   ·obtain⟨n,r⟩:=go (S++[x]) (fun _ h=>aas _ h) (by simp)
    exact⟨n+1,.fin hm e hlen r⟩
   ·
    have many:∀(ms:List Nm)(S0:List Nm),(∀y∈ms,y∈sf x)→ms.length≤N→(∀S',(∀y∈S0,y∈S')→(∀y∈ms,y∈S')→∃n,Run sf B n (x::st) S')→∃n,Run sf B n (ms++x::st) S0:=by
     intro ms
     induction ms with
     | nil=>intro S0 _ _ h;exact h S0 (fun _ z=>z) (fun y hy=>by cases hy)
     | cons m r ihm=>
      intro S0 hs hl h
      have Nj:=hc x m (hs m aal)
      rw[aac] at hl
      refine ih m (by omega) (r++x::st) S0 ?_ fun S1 h1 Xv=>ihm S1 (fun y hy=>hs y (aae _ hy)) (by omega) fun S2 h2 h3=>h S2 (fun y hy=>h2 y (h1 y hy)) fun y hy=>?_
      ·rw[W4,aac]
       have:N*cr m+N≤N*cr x:=by rw[←Nat.mul_succ];exact Nat.mul_le_mul_left N Nj
       omega
      ·rcases Z8.mp hy with z|z
       ·rw[z];exact h2 m Xv
       ·exact h3 y z
    have Br:(Ex sf S x).length≤N:=XI (aaE _ _) (hN x)
    have cont:∀S',(∀y∈S,y∈S')→(∀y∈(Ex sf S x).reverse,y∈S')→∃n,Run sf B n (x::st) S':=fun S' h1 h2=>by
     by_cases Qy:x∈S'
     ·obtain⟨n,r⟩:=go S' h1 Qy
      exact⟨n+1,.skip Qy hlen r⟩
     ·have e':Ex sf S' x=[]:=Cy.mpr fun y hy=>by
       by_cases Vg:y∈S
       ·exact h1 y Vg
       ·exact h2 y (List.mem_reverse.mpr (aao.mpr ⟨hy,by simpa using Vg⟩))
      obtain⟨n,r⟩:=go (S'++[x]) (fun y hy=>aas _ (h1 y hy)) (by simp)
      exact⟨n+1,.fin Qy e' hlen r⟩
    obtain⟨n,r⟩:=many (Ex sf S x).reverse S (fun y hy=>(aao.mp (List.mem_reverse.mp hy)).1) (by rw[abr];exact Br) cont
    exact⟨n+1,.push hm e hlen r⟩
noncomputable def Rb(ls:List Ln)(rk:Nm→Nat)(n:Nm):Nat:=(ls.filter fun l=>rk l.nm<rk n).length
theorem Pp(ls:List Ln)(rk:Nm→Nat)(n:Nm):Rb ls rk n≤ls.length:=aaE _ _
theorem Pq{ls:List Ln}{rk:Nm→Nat}{m n:Nm}(hm:m∈ls.map (·.nm))(h:rk m<rk n):Rb ls rk m<Rb ls rk n:=by
 unfold Rb
 have mono:∀{a b:Ln→Bool} {xs:List Ln},(∀x∈xs,a x=true→b x=true)→(xs.filter a).length≤(xs.filter b).length:=by
  intro a b xs Hh
  induction xs with
  | nil=>exact WL _
  | cons x r ih=>
   have ih:=ih fun y hy=>Hh y (aae _ hy)
   by_cases ha:a x=true
   ·rw[aaa ha,aaa (Hh x aal ha),aac,aac];omega
   ·rw[aad ha]
    by_cases hb:b x=true
    ·rw[aaa hb,aac];omega
    ·rw[aad hb];exact ih
 obtain⟨l,hl,rfl⟩:=List.mem_map.mp hm
 obtain⟨a,b,rfl⟩:=List.append_of_mem hl
 rw[aaB,aaB,W4,W4]
 rw[aad (by simp),aaa (by simpa using h),aac]
 have h1:=mono (a:=fun x:Ln=>decide (rk x.nm<rk l.nm)) (b:=fun x=>decide (rk x.nm<rk n)) (xs:=a) fun x _ hx=>by simp at hx ⊢;omega
 have h2:=mono (a:=fun x:Ln=>decide (rk x.nm<rk l.nm)) (b:=fun x=>decide (rk x.nm<rk n)) (xs:=b) fun x _ hx=>by simp at hx ⊢;omega
 omega
theorem len_sub{xs ys:List Nm}(nd:xs.Nodup)(h:∀x∈xs,x∈ys):xs.length≤ys.length:=by
 induction xs generalizing ys with
 | nil=>exact aaz _
 | cons a r ih=>
  rw[aa0] at nd
  obtain⟨p,q,rfl⟩:=List.append_of_mem (h a aal)
  have:=ih (ys:=p++q) nd.2 fun z hz=>by
   have:=h z (aae _ hz)
   rcases Z3.mp this with w|w
   ·exact aas _ w
   ·rcases Z8.mp w with w|w
    ·exact absurd (w▸hz) nd.1
    ·exact aaL _ w
  rw[W4] at this
  rw[aac,W4,aac]
  omega
theorem J7{ls:List Ln}(cl:qy ls)(tp:J6 ls){sf:Nm→List Nm}(hs:∀n,(sf n).Nodup∧∀m,m∈sf n↔Sa ls m n)(x:Nm)(S:List Nm):∃n,Run sf (1+ls.length*ls.length) n [x] S:=by
 obtain⟨rk,hr⟩:=tp
 have XD:∀n,(sf n).length≤ls.length:=fun n=>by
  have:=len_sub (ys:=ls.map (·.nm)) (hs n).1 fun y hy=>(cl.sa (((hs n).2 y).mp hy)).1
  rw[TU] at this
  exact this
 refine Mr (N:=ls.length) (Rb ls rk) XD (fun x y hy=>?_) _ x (WL _) [] S ?_ fun S' _ _=>⟨0,.nil⟩
 ·have h:=((hs x).2 y).mp hy
  exact Pq (cl.sa h).1 (hr.sa h)
 ·have:=Nat.mul_le_mul_left ls.length (Pp ls rk x)
  show 0+1+ls.length*Rb ls rk x≤1+ls.length*ls.length
  omega
def HP(n m:Nat)(qs:List (Nat×Nat)):Prop:=qs.Pairwise (fun a b=>a.1<b.1∧a.2<b.2)∧∀q∈qs,q.1<n∧q.2<m
theorem HQ{α:Type}[DecidableEq α]{old new:List α}{i j:Nat}{qs:List (Nat×Nat)}(g:K01.Good old new i j qs):HP old.length new.length qs∧∀q∈qs,i≤q.1∧j≤q.2:=by
 induction g with
 | nil=>exact⟨⟨List.Pairwise.nil,fun q hq=>by cases hq⟩,fun q hq=>by cases hq⟩
 | @cons i j p q r h1 h2 a e1 e2 h3 t ih=>
  obtain⟨⟨h4,h5⟩,h6⟩:=ih
  refine⟨⟨List.Pairwise.cons (fun b hb=>?_) h4,fun b hb=>?_⟩,fun b hb=>?_⟩
  ·have:=h6 b hb
   exact⟨by show p<b.1;omega,by show q<b.2;omega⟩
  ·rcases Z8.mp hb with rfl|hb
   ·exact⟨(List.getElem?_eq_some_iff.mp e1).1,(List.getElem?_eq_some_iff.mp e2).1⟩
   ·exact h5 b hb
  ·rcases Z8.mp hb with rfl|hb
   ·exact⟨h1,h2⟩
   ·have:=h6 b hb
    omega
theorem tj{α:Type}[DecidableEq α](old new:List α):HP old.length new.length (K01.kept old new):=(HQ (K01.HN old new)).1
noncomputable def mR(row:List Ln):List (Nat×Nat)→Nat→Option Nm
 | [],_=>none
 | q::r,s=>if q.2=s then(row[q.1]?).map (·.nm) else mR row r s
noncomputable def uo(row:List Ln)(qs:List (Nat×Nat)):List Nm:=qs.filterMap fun q=>(row[q.1]?).map (·.nm)
theorem Cz{row:List Ln}{qs:List (Nat×Nat)}{s:Nat}{m:Nm}(h:mR row qs s=some m):∃q∈qs,q.2=s∧∃l,row[q.1]?=some l∧l.nm=m:=by
 induction qs with
 | nil=>cases h
 | cons q r ih=>
  unfold mR at h
  by_cases e:q.2=s
  ·rw[aar e] at h
   obtain⟨l,hl,e2⟩:=Option.map_eq_some_iff.mp h
   exact⟨q,aal,e,l,hl,e2⟩
  ·rw[aap e] at h
   obtain⟨q',hq,z⟩:=ih h
   exact⟨q',aae _ hq,z⟩
theorem CA{row:List Ln}{m:Nat}:∀{qs:List (Nat×Nat)},HP row.length m qs→∀s,(mR row qs s).isSome=decide (s∈qs.map (·.2))
 | [],_,s=>rfl
 | q::r,h,s=>by
  have hr:HP row.length m r:=⟨(List.pairwise_cons.mp h.1).2,fun x hx=>h.2 x (aae _ hx)⟩
  unfold mR
  by_cases e:q.2=s
  ·rw[aar e,TZ (h.2 q aal).1,WM (by rw[aax,e];exact aal)];rfl
  ·rw[aap e,CA hr s,aax]
   by_cases z:s∈r.map (·.2)
   ·rw[WM z,WM (aae _ z)]
   ·rw[Z6 z,Z6 (fun w=>(Z8.mp w).elim (fun w=>e w.symm) z)]
theorem Ms{row:List Ln}{qs:List (Nat×Nat)}{m:Nat}{rk:Nm→Nat}(h:HP row.length m qs)(hr:row.Pairwise fun a b=>rk a.nm<rk b.nm){s t:Nat}{a b:Nm}(hs:mR row qs s=some a)(ht:mR row qs t=some b)(rE:s<t):rk a<rk b:=by
 obtain⟨q1,h1,e1,l1,r1,rfl⟩:=Cz hs
 obtain⟨q2,h2,e2,l2,r2,rfl⟩:=Cz ht
 have jQ:q1.1<q2.1:=by
  obtain⟨i,hi,ei⟩:=List.mem_iff_getElem.mp h1
  obtain⟨j,hj,ej⟩:=List.mem_iff_getElem.mp h2
  have hp:=aaJ.mp h.1
  rcases abX i j with z|z|z
  ·have:=hp i j hi hj z;rw[ei,ej] at this;exact this.1
  ·subst z;rw[ei] at ej;subst ej;omega
  ·have:=hp j i hj hi z;rw[ei,ej] at this;omega
 obtain⟨g1,w1⟩:=List.getElem?_eq_some_iff.mp r1
 obtain⟨g2,w2⟩:=List.getElem?_eq_some_iff.mp r2
 have:=aaJ.mp hr _ _ g1 g2 jQ
 rw[w1,w2] at this
 exact this
noncomputable def Mt(kn:Nat→Option Nm):Nat→Nat→Option Nm
 | 0,_=>none
 | k+1,i=>match kn (i+1) with|some m=>some m|none=>Mt kn k (i+1)
noncomputable def tL(p:Str)(kn:Nat→Option Nm):Nat→Nat→Option Nm→List Str→List Ln
 | _,_,_,[]=>[]
 | i,j,u,t::r=>match kn i with
  | some m=>tL p kn (i+1) j (some m) r
  | none=>⟨(p,j),t,u,Mt kn r.length i⟩::tL p kn (i+1) (j+1) (some (p,j)) r
noncomputable def kI(p:Str)(texts:List Str)(kn:Nat→Option Nm):List Ln:=tL p kn 0 0 none texts
noncomputable def mE(p f:Str)(row:List Ln)(texts:List Str):Pt:=
 ⟨p,some f,kI p texts (mR row (K01.kept (row.map (·.tx)) texts)),(row.filter fun l=>l.nm∉uo row (K01.kept (row.map (·.tx)) texts)).map (·.nm),none⟩
theorem u5(p:Str)(kn:Nat→Option Nm):∀(r:List Str)(i j:Nat)(u:Option Nm),(tL p kn i j u r).map (·.nm)=(List.range' j (tL p kn i j u r).length).map fun k=>(p,k)
 | [],_,_,_=>rfl
 | t::r,i,j,u=>by
  unfold tL
  cases h:kn i with
  | some m=>exact u5 p kn r (i+1) j (some m)
  | none=>
   simp only [aax,aac,aci]
   rw[u5 p kn r (i+1) (j+1) (some (p,j))]
theorem zF(p:Str)(kn:Nat→Option Nm):∀(r:List Str)(i j:Nat)(u:Option Nm),(tL p kn i j u r).length=((List.range' i r.length).filter fun k=>(kn k).isNone).length
 | [],_,_,_=>rfl
 | t::r,i,j,u=>by
  unfold tL
  rw[aac,aci]
  cases h:kn i with
  | some m=>rw[aad (by simp[h])];exact zF p kn r (i+1) j (some m)
  | none=>rw[aaa (by simp[h]),aac];simp only [aac];rw[zF p kn r (i+1) (j+1) (some (p,j))]
theorem CB{kn:Nat→Option Nm}{m:Nm}:∀{k i:Nat},Mt kn k i=some m→∃t,i<t∧t≤i+k∧kn t=some m
 | 0,_,h=>by cases h
 | k+1,i,h=>by
  unfold Mt at h
  cases e:kn (i+1) with
  | some m'=>
   rw[e] at h
   cases h
   exact⟨i+1,by omega,by omega,e⟩
  | none=>
   rw[e] at h
   obtain⟨t,h1,h2,h3⟩:=CB (k:=k) (i:=i+1) h
   exact⟨t,by omega,by omega,h3⟩
theorem yP{p:Str}{kn:Nat→Option Nm}:∀(r:List Str)(i j:Nat)(u:Option Nm),∀l∈tL p kn i j u r,∀m,l.up=some m∨l.lo=some m→(u=some m∨∃t,kn t=some m)∨m∈(tL p kn i j u r).map (·.nm)
 | [],_,_,_,l,hl,_,_=>by cases hl
 | t::r,i,j,u,l,hl,m,hm=>by
  unfold tL at hl ⊢
  cases h:kn i with
  | some m'=>
   rw[h] at hl
   rcases yP r (i+1) j (some m') l hl m hm with(z|z)|z
   ·exact .inl (.inr ⟨i,by rw[h];exact z⟩)
   ·exact .inl (.inr z)
   ·exact .inr z
  | none=>
   rw[h] at hl
   rcases Z8.mp hl with rfl|hl
   ·rcases hm with hm|hm
    ·exact .inl (.inl hm)
    ·obtain⟨t,_,_,e⟩:=CB hm
     exact .inl (.inr ⟨t,e⟩)
   ·rcases yP r (i+1) (j+1) (some (p,j)) l hl m hm with(z|z)|z
    ·cases z
     exact .inr (by rw[aax];exact aal)
    ·exact .inl (.inr z)
    ·exact .inr (aae _ z)
noncomputable def J9(rk:Nm→Nat)(kn:Nat→Option Nm):Nat→Nat
 | 0=>0
 | i+1=>match kn i with|some m=>rk m+1|none=>J9 rk kn i
noncomputable def WN(kn:Nat→Option Nm)(n j:Nat):Nat:=(((List.range n).filter fun k=>(kn k).isNone)[j]?).getD 0
noncomputable def FT(rk:Nm→Nat)(kn:Nat→Option Nm)(p:Str)(n:Nat)(x:Nm):Nat:=if x.1=p then J9 rk kn (WN kn n x.2)*(n+1)+x.2+1 else(rk x+1)*(n+1)
theorem J_{rk:Nm→Nat}{kn:Nat→Option Nm}(hk:∀s t a b,kn s=some a→kn t=some b→s<t→rk a<rk b):∀i t b,kn t=some b→i≤t→J9 rk kn i≤rk b
 | 0,_,_,_,_=>aaz _
 | i+1,t,b,h,hi=>by
  unfold J9
  cases e:kn i with
  | some m=>exact hk i t m b e h (by omega)
  | none=>exact J_ hk i t b h (by omega)
theorem Pr{kn:Nat→Option Nm}{n i:Nat}(hi:i<n)(h:kn i=none):WN kn n ((List.range i).filter fun k=>(kn k).isNone).length=i:=by
 unfold WN
 have e:List.range n=List.range i++i::List.range' (i+1) (n-(i+1)):=by
  have h1:List.range n=List.range i++(List.range' i (n-i)):=by
   have:=List.range'_append_1 (s:=0) (m:=i) (n:=n-i)
   rw[Nat.zero_add,show i+(n-i)=n by omega] at this
   rw[List.range_eq_range',List.range_eq_range',this]
  rw[h1,show n-i=(n-(i+1))+1 by omega,aci]
 rw[e,aaB,aaa (by simp[h]),aa9 (WL _),acm]
 rfl
theorem CC{rk:Nm→Nat}{kn:Nat→Option Nm}{p:Str}{n:Nat}(hk:∀s t a b,kn s=some a→kn t=some b→s<t→rk a<rk b)(hp:∀s a,kn s=some a→a.1≠p) :
  ∀(r:List Str)(i j:Nat)(u:Option Nm),i+r.length=n→j=((List.range i).filter fun k=>(kn k).isNone).length→(∀m,u=some m→FT rk kn p n m≤J9 rk kn i*(n+1)+j)→
   Rk (tL p kn i j u r) (FT rk kn p n)
 | [],_,_,_,_,_,_=>fun l hl=>by cases hl
 | t::r,i,j,u,hn,hj,hu=>by
  rw[aac] at hn
  have K8:i<n:=by omega
  have IJ:j≤i:=by rw[hj];exact XI (aaE _ _) (by rw[aaR];exact WL _)
  have e1:(List.range (i+1)).filter (fun k=>(kn k).isNone)=(List.range i).filter (fun k=>(kn k).isNone)++if(kn i).isNone then[i] else[]:=by
   rw[abY,aaB]
   congr 1
   cases h:(kn i).isNone<;>simp[h]
  unfold tL
  cases h:kn i with
  | some m=>
   refine CC hk hp r (i+1) j (some m) (by omega) (by rw[e1,h];simpa using hj) fun m' e=>?_
   cases e
   unfold FT
   rw[aap (hp i m h),J9.eq_2,h]
   show(rk m+1)*(n+1)≤(rk m+1)*(n+1)+j
   omega
  | none=>
   have LK:FT rk kn p n (p,j)=J9 rk kn i*(n+1)+j+1:=by
    unfold FT
    rw[aar rfl,hj,Pr K8 h]
   have hb:J9 rk kn (i+1)=J9 rk kn i:=by rw[J9.eq_2,h]
   intro l hl
   rcases Z8.mp hl with rfl|hl
   ·refine⟨fun m hm=>?_,fun m hm=>?_⟩
    ·have:=hu m hm
     show FT rk kn p n m<FT rk kn p n (p,j)
     omega
    ·obtain⟨t',ht1,XF,e⟩:=CB hm
     show FT rk kn p n (p,j)<FT rk kn p n m
     have hle:=J_ hk i t' m e (by omega)
     rw[LK]
     unfold FT
     rw[aap (hp t' m e)]
     have h1:J9 rk kn i*(n+1)≤rk m*(n+1):=Nat.mul_le_mul_right _ hle
     have h2:(rk m+1)*(n+1)=rk m*(n+1)+(n+1):=Nat.succ_mul _ _
     omega
   ·refine CC hk hp r (i+1) (j+1) (some (p,j)) (by omega) (by rw[e1,h,hj];simp) (fun m' e=>?_) l hl
    cases e
    rw[LK,hb]
    omega
theorem Ka{rk:Nm→Nat}{kn:Nat→Option Nm}{p:Str}(hk:∀s t a b,kn s=some a→kn t=some b→s<t→rk a<rk b)(hp:∀s a,kn s=some a→a.1≠p)(texts:List Str):Rk (kI p texts kn) (FT rk kn p texts.length):=
 CC hk hp texts 0 0 none (by omega) rfl fun m e=>by cases e
theorem Kb{rk:Nm→Nat}{kn:Nat→Option Nm}{p:Str}{n:Nat}{ls:List Ln}(r:Rk ls rk)(h:∀l∈ls,l.nm.1≠p∧∀m,l.up=some m∨l.lo=some m→m.1≠p):Rk ls (FT rk kn p n):=by
 intro l hl
 obtain⟨h1,h2⟩:=h l hl
 have e:∀x:Nm,x.1≠p→FT rk kn p n x=(rk x+1)*(n+1):=fun x hx=>by unfold FT;rw[aap hx]
 refine⟨fun m hm=>?_,fun m hm=>?_⟩
 ·rw[e _ h1,e _ (h2 m (.inl hm))]
  exact Nat.mul_lt_mul_of_pos_right (Nat.succ_lt_succ ((r l hl).1 m hm)) (Nat.succ_pos _)
 ·rw[e _ h1,e _ (h2 m (.inr hm))]
  exact Nat.mul_lt_mul_of_pos_right (Nat.succ_lt_succ ((r l hl).2 m hm)) (Nat.succ_pos _)
theorem zG{xs ys:List Nat}(nd:xs.Nodup)(h:∀x∈xs,x∈ys):xs.length≤ys.length:=by
 have:=len_sub (xs:=xs.map fun k=>((Str.empty,k):Nm)) (ys:=ys.map fun k=>(Str.empty,k)) (List.pairwise_map.mpr (nd.imp fun h z=>h (aa6 Prod.snd z))) fun x hx=>by
  obtain⟨k,hk,rfl⟩:=List.mem_map.mp hx
  exact XE (h k hk)
 rwa [TU,TU] at this
theorem zH{α:Type}(p:α→Bool):∀xs:List α,(xs.filter p).length+(xs.filter fun x=>!p x).length=xs.length
 | []=>rfl
 | x::r=>by
  have:=zH p r
  cases h:p x<;>simp[h]<;>omega
theorem GU{row:List Ln}{texts:List Str}{qs:List (Nat×Nat)}(h:HP row.length texts.length qs)(p:Str):(kI p texts (mR row qs)).length+qs.length=texts.length:=by
 unfold kI
 rw[zF,←List.range_eq_range']
 have h2:=zH (fun k=>(mR row qs k).isNone) (List.range texts.length)
 rw[aaR] at h2
 have h3:((List.range texts.length).filter fun x=>!(mR row qs x).isNone).length=qs.length:=by
  have nd:(qs.map (·.2)).Nodup:=List.pairwise_map.mpr (h.1.imp fun z e=>by omega)
  refine Nat.le_antisymm ?_ ?_
  ·have:=zG (xs:=(List.range texts.length).filter fun x=>!(mR row qs x).isNone) (ys:=qs.map (·.2)) (List.nodup_range.sublist aaO) fun x hx=>by
    have h4:=(aao.mp hx).2
    have h5:(mR row qs x).isSome=true:=by cases e:mR row qs x<;>simp[e] at h4 ⊢
    rw[CA h] at h5
    exact aak h5
   rwa [TU] at this
  ·have:=zG (xs:=qs.map (·.2)) (ys:=(List.range texts.length).filter fun x=>!(mR row qs x).isNone) nd fun x hx=>by
    refine aao.mpr ⟨aaX.mpr ?_,?_⟩
    ·obtain⟨q,hq,rfl⟩:=List.mem_map.mp hx
     exact(h.2 q hq).2
    ·have h5:=CA h x
     rw[WM hx] at h5
     cases e:mR row qs x<;>simp[e] at h5 ⊢
   rwa [TU] at this
 omega
structure Dk where
 made:List Pt
 iT:Str→List Str
 stores:List Str
 held:Str→List Str
noncomputable def named(p:Pt):List Nm:=p.j9++p.iB.flatMap fun l=>l.up.toList++l.lo.toList
noncomputable def iJ(p:Pt):List Str:=((named p).filter fun n=>n.1≠p.nm).map (·.1)++p.other.toList
noncomputable def tm(nd:Str→List Str)(p:Pt):List Str:=(iJ p).flatMap fun y=>y::nd y
namespace Dk
noncomputable def names(D:Dk):List Str:=D.made.map (·.nm)
noncomputable def keep(D:Dk)(s:Str)(p:Pt):Dk:=⟨D.made++[p],fun x=>if x=p.nm then tm D.iT p else D.iT x,D.stores,fun t=>if t=s then D.held s++[p.nm] else D.held t⟩
noncomputable def begin(D:Dk)(s:Str):Dk:=⟨D.made,D.iT,D.stores++[s],fun t=>if t=s then[] else D.held t⟩
noncomputable def l6(D:Dk)(s:Str):List Pt:=D.made.filter fun p=>p.nm∈D.held s
noncomputable def has(D:Dk)(s:Str):List Str:=D.names.filter fun x=>x∈D.held s
noncomputable def n5(D:Dk)(x:Str):List Str:=D.names.filter fun y=>y∈D.iT x
noncomputable def n6(D:Dk)(s x:Str):List Str:=(D.n5 x++[x]).filter fun y=>y∉D.held s
noncomputable def take(D:Dk)(s x:Str):Dk:=⟨D.made,D.iT,D.stores,fun t=>if t=s then D.held s++D.n6 s x else D.held t⟩
noncomputable def drop(D:Dk)(s x:Str):Dk:=⟨D.made,D.iT,D.stores,fun t=>if t=s then(D.held s).filter (fun y=>y≠x) else D.held t⟩
noncomputable def row(D:Dk)(s f:Str):List Ln:=rowOf (Ah (gE (D.l6 s) f)) (k9 (D.l6 s) f)
noncomputable def pO(D:Dk)(s f:Str):List (Nat×Nat):=jH (Ah (gE (D.l6 s) f)) (D.row s f)
theorem GV(D:Dk)(s:Str):D.has s=(D.l6 s).map (·.nm):=by
 unfold has l6 names
 rw[List.filter_map];rfl
end Dk
structure Inv(D:Dk):Prop where
 nd:D.names.Nodup
 HR:∀p∈D.made,p.iB.map (·.nm)=(List.range p.iB.length).map fun j=>(p.nm,j)
 refs:∀p∈D.made,∀l∈p.iB,∀m,l.up=some m∨l.lo=some m→∃q∈D.made,q.file=p.file∧m∈q.iB.map (·.nm)∧(q.nm=p.nm∨q.nm∈D.iT p.nm)
 rank:∃rk,∀p∈D.made,Rk p.iB rk
 before:∀i p,D.made[i]?=some p→∀x∈D.iT p.nm,x∈(D.made.take i).map (·.nm)
 trans:∀x∈D.names,∀y∈D.iT x,∀z∈D.iT y,z∈D.iT x
 stN:D.stores.Nodup
 l7:∀s∈D.stores,∀x∈D.held s,x∈D.names∧∀y∈D.iT x,y∈D.held s
 u_:∀s∈D.stores,(D.held s).Nodup
theorem rR{p:Pt}(h:p.iB.map (·.nm)=(List.range p.iB.length).map fun j=>(p.nm,j)){m:Nm}(hm:m∈p.iB.map (·.nm)):m.1=p.nm:=by
 rw[h] at hm
 obtain⟨j,_,rfl⟩:=List.mem_map.mp hm
 rfl
theorem FU{ps:List Pt}(nd:(ps.map (·.nm)).Nodup)(h:∀p∈ps,p.iB.map (·.nm)=(List.range p.iB.length).map fun j=>(p.nm,j)):((ps.flatMap (·.iB)).map (·.nm)).Nodup:=by
 induction ps with
 | nil=>exact abp
 | cons x r ih=>
  rw[aax,aa0] at nd
  rw[aaH,aat,aa3]
  refine⟨?_,ih nd.2 fun p hp=>h p (aae _ hp),fun a ha b hb e=>?_⟩
  ·rw[h x aal]
   exact List.pairwise_map.mpr (List.nodup_range.imp fun z e=>z (aa6 Prod.snd e))
  ·have e1:=rR (h x aal) ha
   obtain⟨l,hl,rfl⟩:=List.mem_map.mp hb
   obtain⟨q,hq,hlq⟩:=aa_.mp hl
   have e2:=rR (h q (aae _ hq)) (XE hlq)
   exact nd.1 (by rw[←e1,e,e2];exact XE hq)
theorem lI{ps:List Pt}{f:Str}{l:Ln}:l∈gE ps f↔∃p∈ps,p.file=some f∧l∈p.iB:=by
 unfold gE
 rw[aa_]
 constructor
 ·rintro⟨p,hp,hl⟩
  obtain⟨h1,h2⟩:=aao.mp hp
  exact⟨p,h1,aak h2,hl⟩
 ·rintro⟨p,h1,h2,hl⟩
  exact⟨p,aao.mpr ⟨h1,WM h2⟩,hl⟩
theorem va(ps:List Pt)(f:Str):(gE ps f).Sublist (ps.flatMap (·.iB)):=by
 unfold gE
 have h:=aaO (p:=fun p:Pt=>decide (p.file=some f)) (l:=ps)
 generalize ps.filter _=qs at h
 induction h with
 | slnil=>exact aaF _
 | cons x _ ih=>rw[aaH];exact ih.trans (aa5 _ _)
 | cons_cons x _ ih=>rw[aaH,aaH];exact(aaF _).append ih
namespace Inv
variable{D:Dk}
theorem mx{s:Str}{p:Pt}:p∈D.l6 s↔p∈D.made∧p.nm∈D.held s:=by
 unfold Dk.l6
 rw[aao,abx]
theorem yQ(s:Str):(D.l6 s).Sublist D.made:=aaO
theorem nodup(I:Inv D)(s f:Str):((gE (D.l6 s) f).map (·.nm)).Nodup:=
 ((va _ f).map _).nodup (FU (((yQ s).map _).nodup I.nd) fun p hp=>I.HR p (yQ s |>.subset hp))
theorem FV(I:Inv D)(s f:Str):((k9 (D.l6 s) f).map (·.nm)).Nodup:=((kQ _ f).map _).nodup (I.nodup s f)
theorem closed(I:Inv D){s:Str}(hs:s∈D.stores)(f:Str):qy (gE (D.l6 s) f):=by
 have key:∀l∈gE (D.l6 s) f,∀m,l.up=some m∨l.lo=some m→m∈(gE (D.l6 s) f).map (·.nm):=fun l hl m hm=>by
  obtain⟨p,hp,hf,hl⟩:=lI.mp hl
  obtain⟨hp,hh⟩:=mx.mp hp
  obtain⟨q,hq,e,XG,hn⟩:=I.refs p hp l hl m hm
  obtain⟨l',IK,rfl⟩:=List.mem_map.mp XG
  refine XE (lI.mpr ⟨q,mx.mpr ⟨hq,?_⟩,by rw[e];exact hf,IK⟩)
  rcases hn with hn|hn
  ·rw[hn];exact hh
  ·exact(I.l7 s hs _ hh).2 _ hn
 exact fun l hl=>⟨fun m hm=>key l hl m (.inl hm),fun m hm=>key l hl m (.inr hm)⟩
theorem Pu(I:Inv D)(s f:Str):J6 (gE (D.l6 s) f):=by
 obtain⟨rk,h⟩:=I.rank
 refine⟨rk,fun l hl=>?_⟩
 obtain⟨p,hp,_,hl⟩:=lI.mp hl
 exact h p (mx.mp hp).1 l hl
theorem pP(I:Inv D)(s f:Str):(D.row s f).Perm (k9 (D.l6 s) f):=by
 obtain⟨rk,r⟩:=I.Pu s f
 exact zE (rk:=rk) (fun m n z=>r.ah z) (I.FV s f)
theorem vc(I:Inv D){s f:Str}{l:Ln}(h:l∈D.row s f):∃p∈D.l6 s,p.file=some f∧l∈p.iB:=
 lI.mp ((kQ _ f).subset ((I.pP s f).subset h))
theorem oH(I:Inv D)(s f:Str):(D.row s f).length≤(D.made.flatMap (·.iB)).length:=by
 rw[(I.pP s f).length_eq]
 refine XI (kQ _ f).length_le (XI (va _ f).length_le ?_)
 have h:=yQ (D:=D) s
 generalize D.l6 s=qs at h
 generalize D.made=ms at h
 clear I
 induction h with
 | slnil=>exact WL _
 | cons x _ ih=>rw[aaH,W4];omega
 | cons_cons x _ ih=>rw[aaH,aaH,W4,W4];omega
open Classical in
theorem chain{lt:Nm→Nm→Prop}{row:List Ln}(hq:jH lt row=[]):row.Pairwise fun a b=>lt a.nm b.nm:=by
 rw[aaJ]
 intro i j hi hj DR
 by_cases c:ltAt lt row i j
 ·obtain⟨a,b,ha,hb,z⟩:=c
  rw[TZ hi] at ha
  rw[TZ hj] at hb
  cases ha;cases hb
  exact z
 ·exfalso
  have:(i,j)∈jH lt row:=by
   unfold jH
   refine aa_.mpr ⟨i,aaX.mpr hi,List.mem_map.mpr ⟨j,aao.mpr ⟨List.mem_range'.mpr ⟨j-(i+1),by omega,by omega⟩,WM c⟩,rfl⟩⟩
  rw[hq] at this
  cases this
theorem keep(I:Inv D){s:Str}{p:Pt}(hs:s∈D.stores)(fresh:p.nm∉D.names)(HR:p.iB.map (·.nm)=(List.range p.iB.length).map fun j=>(p.nm,j))
  (refs:∀l∈p.iB,∀m,l.up=some m∨l.lo=some m→m∈p.iB.map (·.nm)∨∃q∈D.l6 s,q.file=p.file∧m∈q.iB.map (·.nm))
  (j9:∀m∈p.j9,∃q∈D.l6 s,m∈q.iB.map (·.nm)) (other:∀o,p.other=some o→o∈D.held s)
  (rank:∃rk,(∀q∈D.made,Rk q.iB rk)∧Rk p.iB rk):Inv (D.keep s p):=by
 have rB:∀x∈D.names,x≠p.nm:=fun x hx e=>fresh (e▸hx)
 have Vq:∀q∈D.made,q.nm∈D.names:=fun q hq=>XE hq
 have N9:∀x,x≠p.nm→(D.keep s p).iT x=D.iT x:=fun x hx=>aap hx
 have Vr:(D.keep s p).iT p.nm=tm D.iT p:=aar rfl
 have XH:∀x∈iJ p,x∈D.held s:=fun x hx=>by
  unfold iJ at hx
  rcases Z3.mp hx with hx|hx
  ·obtain⟨m,hm,rfl⟩:=List.mem_map.mp hx
   obtain⟨hm,hn⟩:=aao.mp hm
   have hn:m.1≠p.nm:=aak hn
   have fin:(∃q∈D.l6 s,m∈q.iB.map (·.nm))→m.1∈D.held s:=fun⟨q,hq,XG⟩=>by
    obtain⟨h1,h2⟩:=mx.mp hq
    rw[rR (I.HR q h1) XG];exact h2
   rcases Z3.mp hm with hm|hm
   ·exact fin (j9 m hm)
   ·obtain⟨l,hl,hm⟩:=aa_.mp hm
    have Qy:l.up=some m∨l.lo=some m:=by
     rcases Z3.mp hm with hm|hm
     ·exact .inl (by simpa using hm)
     ·exact .inr (by simpa using hm)
    rcases refs l hl m Qy with z|⟨q,hq,_,z⟩
    ·exact absurd (rR HR z) hn
    ·exact fin ⟨q,hq,z⟩
  ·exact other x (by simpa using hx)
 have nh:∀x∈tm D.iT p,x∈D.held s:=fun x hx=>by
  obtain⟨y,hy,hx⟩:=aa_.mp hx
  rcases Z8.mp hx with rfl|hx
  ·exact XH _ hy
  ·exact(I.l7 s hs y (XH y hy)).2 x hx
 have nn:∀x∈tm D.iT p,x∈D.names:=fun x hx=>(I.l7 s hs x (nh x hx)).1
 have TX:∀x∈D.names,∀y∈D.iT x,y∈D.names:=fun x hx y hy=>by
  obtain⟨q,hq,rfl⟩:=List.mem_map.mp hx
  obtain⟨i,hi⟩:=aaC.mp hq
  have:=I.before i q hi y hy
  exact(acf i D.made).map _ |>.subset this
 refine⟨?_,fun q hq=>?_,fun q hq l hl m hm=>?_,?_,fun i q hq x hx=>?_,fun x hx y hy z hz=>?_,I.stN,fun t ht x hx=>?_,fun t ht=>?_⟩
 ·show((D.made++[p]).map (·.nm)).Nodup
  rw[aat,aa3]
  exact⟨I.nd,by simp,fun a ha b hb e=>fresh (by simp at hb;rw[←hb,←e];exact ha)⟩
 ·rcases Z3.mp hq with hq|hq
  ·exact I.HR q hq
  ·rw[WG.mp hq];exact HR
 ·rcases Z3.mp hq with hq|hq
  ·obtain⟨q',h1,h2,h3,h4⟩:=I.refs q hq l hl m hm
   refine⟨q',aas _ h1,h2,h3,h4.imp id fun z=>?_⟩
   rw[N9 _ (rB _ (Vq q hq))];exact z
  ·rw[WG.mp hq] at hl ⊢
   rcases refs l hl m hm with z|⟨q',h1,h2,h3⟩
   ·exact⟨p,by show p∈D.made++[p];simp,rfl,z,.inl rfl⟩
   ·obtain⟨h4,h5⟩:=mx.mp h1
    refine⟨q',aas _ h4,h2,h3,.inr ?_⟩
    rw[Vr]
    have e:=rR (I.HR q' h4) h3
    refine aa_.mpr ⟨q'.nm,?_,aal⟩
    unfold iJ
    refine aas _ (List.mem_map.mpr ⟨m,aao.mpr ⟨?_,WM ?_⟩,e⟩)
    ·unfold named
     refine aaL _ (aa_.mpr ⟨l,hl,?_⟩)
     rcases hm with hm|hm
     ·exact aas _ (by rw[hm];simp)
     ·exact aaL _ (by rw[hm];simp)
    ·rw[e];exact rB _ (Vq q' h4)
 ·obtain⟨rk,h1,h2⟩:=rank
  refine⟨rk,fun q hq=>?_⟩
  rcases Z3.mp hq with hq|hq
  ·exact h1 q hq
  ·rw[WG.mp hq];exact h2
 ·show x∈((D.made++[p]).take i).map (·.nm)
  have hq:(D.made++[p])[i]?=some q:=hq
  by_cases hi:i<D.made.length
  ·rw[aba hi] at hq
   rw[List.take_append_of_le_length (by omega)]
   rw[N9 _ (rB _ (Vq q (WI hq)))] at hx
   exact I.before i q hq x hx
  ·have hl:=(List.getElem?_eq_some_iff.mp hq).1
   rw[W4] at hl
   have hi:i=D.made.length:=by have:[p].length=1:=rfl;omega
   subst hi
   rw[aa9 (WL _),acm] at hq
   cases hq
   rw[List.take_append_of_le_length (WL _),aaq]
   rw[Vr] at hx
   exact nn x hx
 ·have hx:x∈(D.made++[p]).map (·.nm):=hx
  rw[aat] at hx
  rcases Z3.mp hx with hx|hx
  ·rw[N9 _ (rB x hx)] at hy ⊢
   rw[N9 _ (rB y (TX x hx y hy))] at hz
   exact I.trans x hx y hy z hz
  ·have hx:x=p.nm:=by simpa using hx
   rw[hx,Vr] at hy ⊢
   rw[N9 _ (rB y (nn y hy))] at hz
   obtain⟨w,hw,hy⟩:=aa_.mp hy
   refine aa_.mpr ⟨w,hw,aae _ ?_⟩
   rcases Z8.mp hy with rfl|hy
   ·exact hz
   ·exact I.trans w (I.l7 s hs w (XH w hw)).1 y hy z hz
 ·have old:∀u∈D.stores,∀x∈D.held u,x∈(D.keep s p).names∧∀y∈(D.keep s p).iT x,y∈D.held u:=fun u hu x hx=>by
   obtain⟨h1,h2⟩:=I.l7 u hu x hx
   refine⟨?_,fun y hy=>?_⟩
   ·show x∈(D.made++[p]).map (·.nm)
    rw[aat];exact aas _ h1
   ·rw[N9 _ (rB x h1)] at hy
    exact h2 y hy
  have hx:x∈(if t=s then D.held s++[p.nm] else D.held t):=hx
  show x∈(D.keep s p).names∧∀y∈(D.keep s p).iT x,y∈(if t=s then D.held s++[p.nm] else D.held t)
  by_cases e:t=s
  ·rw[aar e] at hx ⊢
   rcases Z3.mp hx with hx|hx
   ·obtain⟨h1,h2⟩:=old s hs x hx
    exact⟨h1,fun y hy=>aas _ (h2 y hy)⟩
   ·have hx:x=p.nm:=by simpa using hx
    rw[hx]
    refine⟨?_,fun y hy=>?_⟩
    ·show p.nm∈(D.made++[p]).map (·.nm)
     simp
    ·rw[Vr] at hy
     exact aas _ (nh y hy)
  ·rw[aap e] at hx ⊢
   exact old t ht x hx
 ·show(if t=s then D.held s++[p.nm] else D.held t).Nodup
  by_cases e:t=s
  ·rw[aar e,aa3]
   exact⟨I.u_ s hs,by simp,fun a ha b hb z=>fresh (by simp at hb;rw[←hb,←z];exact(I.l7 s hs a ha).1)⟩
  ·rw[aap e];exact I.u_ t ht
theorem record(I:Inv D){s f x:Str}(hs:s∈D.stores)(fresh:x∉D.names)(hq:D.pO s f=[])(texts:List Str):Inv (D.keep s (mE x f (D.row s f) texts)):=by
 obtain⟨rk,LK⟩:=I.rank
 have rise:=tj ((D.row s f).map (·.tx)) texts
 rw[TU] at rise
 have TY:∀t m,mR (D.row s f) (K01.kept ((D.row s f).map (·.tx)) texts) t=some m→∃q∈D.l6 s,q.file=some f∧m∈q.iB.map (·.nm):=fun t m h=>by
  obtain⟨q,_,_,l,hl,rfl⟩:=Cz h
  obtain⟨p,h1,h2,h3⟩:=I.vc (WI hl)
  exact⟨p,h1,h2,XE h3⟩
 have own:∀q∈D.made,∀m∈q.iB.map (·.nm),m.1≠x:=fun q hq m hm e=>fresh (by rw[←e,rR (I.HR q hq) hm];exact XE hq)
 have ch:(D.row s f).Pairwise fun a b=>rk a.nm<rk b.nm:=by
  have tr:Rk (gE (D.l6 s) f) rk:=fun l hl=>by
   obtain⟨p,hp,_,hl⟩:=lI.mp hl
   exact LK p (mx.mp hp).1 l hl
  exact(chain hq).imp fun z=>tr.ah z
 refine I.keep hs fresh ?_ (fun l hl m hm=>?_) (fun m hm=>?_) (fun o ho=>by cases ho) ⟨FT rk (mR (D.row s f) (K01.kept ((D.row s f).map (·.tx)) texts)) x texts.length,fun q hq=>?_,?_⟩
 ·show(kI x texts _).map (·.nm)=(List.range (kI x texts _).length).map fun j=>(x,j)
  unfold kI
  rw[u5,←List.range_eq_range']
 ·rcases yP texts 0 0 none l hl m hm with(z|⟨t,z⟩)|z
  ·cases z
  ·exact .inr (TY t m z)
  ·exact .inl z
 ·obtain⟨l,hl,rfl⟩:=List.mem_map.mp hm
  obtain⟨p,h1,_,h3⟩:=I.vc (aao.mp hl).1
  exact⟨p,h1,XE h3⟩
 ·refine Kb (LK q hq) fun l hl=>⟨own q hq _ (XE hl),fun m hm=>?_⟩
  obtain⟨q',h1,_,h3,_⟩:=I.refs q hq l hl m hm
  exact own q' h1 m h3
 ·refine Ka (fun a b c d h1 h2 h3=>Ms rise ch h1 h2 h3) (fun t m h=>?_) texts
  obtain⟨q,h1,_,h3⟩:=TY t m h
  exact own q (mx.mp h1).1 m h3
theorem cut(I:Inv D){s f x:Str}(hs:s∈D.stores)(fresh:x∉D.names){ms:List Nm}(hm:∀m∈ms,m∈(D.row s f).map (·.nm)):Inv (D.keep s ⟨x,some f,[],ms,none⟩):=by
 refine I.keep hs fresh rfl (fun l hl=>by cases hl) (fun m h=>?_) (fun o ho=>by cases ho) ?_
 ·obtain⟨l,hl,rfl⟩:=List.mem_map.mp (hm m h)
  obtain⟨p,h1,_,h3⟩:=I.vc hl
  exact⟨p,h1,XE h3⟩
 ·obtain⟨rk,h⟩:=I.rank
  exact⟨rk,h,fun l hl=>by cases hl⟩
theorem back(I:Inv D){s x o:Str}(hs:s∈D.stores)(fresh:x∉D.names)(ho:o∈D.held s):Inv (D.keep s ⟨x,none,[],[],some o⟩):=by
 refine I.keep hs fresh rfl (fun l hl=>by cases hl) (fun m h=>by cases h) (fun o' h=>by cases h;exact ho) ?_
 obtain⟨rk,h⟩:=I.rank
 exact⟨rk,h,fun l hl=>by cases hl⟩
theorem BL(I:Inv D){x:Str}(hx:x∈D.names):x∉D.iT x:=fun h=>by
 obtain⟨q,hq,rfl⟩:=List.mem_map.mp hx
 obtain⟨i,hi⟩:=aaC.mp hq
 have h1:=I.before i q hi _ h
 rw[List.map_take] at h1
 obtain⟨j,hj⟩:=aaC.mp h1
 have IJ:j<i:=by have:=(List.getElem?_eq_some_iff.mp hj).1;rw[aay] at this;omega
 rw[aa7,aar IJ] at hj
 have e3:(D.made.map (·.nm))[i]?=some q.nm:=by rw[Z4,hi];rfl
 have:=(abQ (List.getElem?_eq_some_iff.mp hj).1 I.nd).mp (hj.trans e3.symm)
 omega
theorem yR(I:Inv D){x y:Str}(hx:x∈D.names)(hy:y∈D.iT x):y∈D.names:=by
 obtain⟨q,hq,rfl⟩:=List.mem_map.mp hx
 obtain⟨i,hi⟩:=aaC.mp hq
 exact(acf i D.made).map _ |>.subset (I.before i q hi y hy)
theorem take(I:Inv D){s x:Str}(hs:s∈D.stores)(hx:x∈D.names):Inv (D.take s x):=by
 have cm:∀y∈D.n6 s x,(y=x∨y∈D.iT x)∧y∉D.held s:=fun y hy=>by
  obtain⟨h1,h2⟩:=aao.mp hy
  refine⟨?_,aak h2⟩
  rcases Z3.mp h1 with h|h
  ·exact .inr (aak (aao.mp h).2)
  ·exact .inl (by simpa using h)
 have inn:∀y,y=x∨y∈D.iT x→y∈D.held s++D.n6 s x:=fun y hy=>by
  by_cases h:y∈D.held s
  ·exact aas _ h
  ·refine aaL _ (aao.mpr ⟨?_,WM h⟩)
   rcases hy with rfl|hy
   ·simp
   ·exact aas _ (aao.mpr ⟨I.yR hx hy,WM hy⟩)
 refine⟨I.nd,I.HR,I.refs,I.rank,I.before,I.trans,I.stN,fun t ht z hz=>?_,fun t ht=>?_⟩
 ·have hz:z∈(if t=s then D.held s++D.n6 s x else D.held t):=hz
  show z∈D.names∧∀y∈D.iT z,y∈(if t=s then D.held s++D.n6 s x else D.held t)
  by_cases e:t=s
  ·rw[aar e] at hz ⊢
   rcases Z3.mp hz with hz|hz
   ·obtain⟨h1,h2⟩:=I.l7 s hs z hz
    exact⟨h1,fun y hy=>aas _ (h2 y hy)⟩
   ·obtain⟨h1,_⟩:=cm z hz
    rcases h1 with rfl|h1
    ·exact⟨hx,fun y hy=>inn y (.inr hy)⟩
    ·exact⟨I.yR hx h1,fun y hy=>inn y (.inr (I.trans x hx z h1 y hy))⟩
  ·rw[aap e] at hz ⊢
   exact I.l7 t ht z hz
 ·show(if t=s then D.held s++D.n6 s x else D.held t).Nodup
  by_cases e:t=s
  ·rw[aar e,aa3]
   refine⟨I.u_ s hs,?_,fun a ha b hb z=>(cm b hb).2 (z▸ha)⟩
   refine ab7 aaO ?_
   rw[aa3]
   refine⟨ab7 aaO I.nd,by simp,fun a ha b hb z=>?_⟩
   rw[WG.mp hb] at z
   subst z
   exact I.BL hx (aak (aao.mp ha).2)
  ·rw[aap e];exact I.u_ t ht
theorem drop(I:Inv D){s x:Str}(hs:s∈D.stores)(hx:∀z∈D.held s,x∉D.iT z):Inv (D.drop s x):=by
 refine⟨I.nd,I.HR,I.refs,I.rank,I.before,I.trans,I.stN,fun t ht z hz=>?_,fun t ht=>?_⟩
 ·have hz:z∈(if t=s then(D.held s).filter (fun y=>y≠x) else D.held t):=hz
  show z∈D.names∧∀y∈D.iT z,y∈(if t=s then(D.held s).filter (fun y=>y≠x) else D.held t)
  by_cases e:t=s
  ·rw[aar e] at hz ⊢
   have hz:=(aao.mp hz).1
   obtain⟨h1,h2⟩:=I.l7 s hs z hz
   exact⟨h1,fun y hy=>aao.mpr ⟨h2 y hy,WM fun e=>hx z hz (e▸hy)⟩⟩
  ·rw[aap e] at hz ⊢
   exact I.l7 t ht z hz
 ·show(if t=s then(D.held s).filter (fun y=>y≠x) else D.held t).Nodup
  by_cases e:t=s
  ·rw[aar e];exact ab7 aaO (I.u_ s hs)
  ·rw[aap e];exact I.u_ t ht
theorem begin(I:Inv D){s:Str}(hs:s∉D.stores):Inv (D.begin s):=by
 refine⟨I.nd,I.HR,I.refs,I.rank,I.before,I.trans,?_,fun t ht z hz=>?_,fun t ht=>?_⟩
 ·show(D.stores++[s]).Nodup
  rw[aa3]
  exact⟨I.stN,by simp,fun a ha b hb e=>hs (by rw[←WG.mp hb,←e];exact ha)⟩
 ·have hz:z∈(if t=s then[] else D.held t):=hz
  show z∈D.names∧∀y∈D.iT z,y∈(if t=s then[] else D.held t)
  by_cases e:t=s
  ·rw[aar e] at hz;cases hz
  ·rw[aap e] at hz ⊢
   rcases Z3.mp ht with ht|ht
   ·exact I.l7 t ht z hz
   ·exact absurd (WG.mp ht) e
 ·show(if t=s then[] else D.held t).Nodup
  by_cases e:t=s
  ·rw[aar e];exact abp
  ·rw[aap e]
   rcases Z3.mp ht with ht|ht
   ·exact I.u_ t ht
   ·exact absurd (WG.mp ht) e
theorem BM(I:Inv D){s x:Str}{xs:List Str}(hs:s∈D.stores)(h:D.has s=xs++[x]):∀z∈D.held s,x∉D.iT z:=by
 intro z hz hx
 obtain⟨Lc,_⟩:=I.l7 s hs z hz
 obtain⟨q,hq,rfl⟩:=List.mem_map.mp Lc
 obtain⟨i,hi⟩:=aaC.mp hq
 have h1:=I.before i q hi x hx
 have e:D.names=(D.made.take i).map (·.nm)++q.nm::(D.made.drop (i+1)).map (·.nm):=by
  have Bq:=(List.getElem?_eq_some_iff.mp hi).1
  unfold Dk.names
  conv=>lhs;rw[←abG i D.made,aaT Bq,(List.getElem?_eq_some_iff.mp hi).2]
  rw[aat,aax]
 have hn:=I.nd
 rw[e,aa3,aa0] at hn
 unfold Dk.has at h
 rw[e,aaB,aaa (p:=fun y=>decide (y∈D.held s)) (WM hz)] at h
 have hl:x∈q.nm::((D.made.drop (i+1)).map (·.nm)).filter fun y=>decide (y∈D.held s):=by
  have h2:=aa6 List.getLast? h
  rw[List.getLast?_append,List.getLast?_append] at h2
  have h3:(q.nm::((D.made.drop (i+1)).map (·.nm)).filter fun y=>decide (y∈D.held s)).getLast?=some x:=by
   cases e4:(q.nm::((D.made.drop (i+1)).map (·.nm)).filter fun y=>decide (y∈D.held s)).getLast? with
   | none=>simp at e4
   | some y=>rw[e4] at h2;simpa using h2
  exact List.mem_of_getLast? h3
 have IK:x∈q.nm::(D.made.drop (i+1)).map (·.nm):=by
  rcases Z8.mp hl with z|z
  ·rw[z];exact aal
  ·exact aae _ (aao.mp z).1
 exact hn.2.2 x h1 x IK rfl
end Inv
end PM
namespace PK
open PySem L2
set_option genInjectivity false
set_option genSizeOf false
set_option genSizeOfSpec false
noncomputable def top(i:Nat):Stmt:=PySem.Challenge.pw_patchkin_k14_whole_settled.main.body.getD i (.Pass ⟨0,0,0,0⟩)
noncomputable section
noncomputable abbrev nL(l:List Str):List Str:=l
abbrev pb:=top 2
abbrev qz:=top 3
abbrev qA:=top 4
abbrev FW:=top 5
noncomputable abbrev mS:=inClass (top 17) 0
noncomputable abbrev l_:=inClass (top 18) 0
abbrev kR:=top 19
abbrev jS:=top 20
abbrev n9:=top 21
abbrev rS:=top 22
abbrev kS:=top 23
abbrev n_:=top 24
abbrev ma:=top 25
abbrev zI:=top 26
abbrev oI:=top 27
abbrev qB:=top 28
abbrev vd:=top 29
noncomputable abbrev me:=inClass (top 30) 0
noncomputable abbrev mf:=inClass (top 30) 1
noncomputable abbrev kX:=inClass (top 30) 2
noncomputable abbrev lJ:=inClass (top 30) 3
noncomputable abbrev mT:=inClass (top 30) 4
abbrev qC:=top 34
abbrev oa:=top 35
abbrev pd:=top 36
abbrev rV:=top 37
abbrev jY:=top 38
noncomputable abbrev mU:=inClass (top 39) 0
noncomputable abbrev qD:=inClass (top 39) 1
noncomputable abbrev tS:=inClass (top 39) 2
noncomputable abbrev rW:=inClass (top 39) 3
noncomputable abbrev qE:=inClass (top 39) 4
noncomputable abbrev my:=inClass (top 39) 5
noncomputable abbrev qF:=inClass (top 39) 6
noncomputable abbrev rX:=inClass (top 39) 7
noncomputable abbrev oJ:=inClass (top 39) 8
noncomputable abbrev rY:=inClass (top 39) 9
noncomputable abbrev nI:=inClass (top 39) 10
noncomputable abbrev ve:=inClass (top 39) 12
noncomputable abbrev qG:=inClass (top 39) 13
noncomputable abbrev mV:=inClass (top 39) 14
noncomputable abbrev rZ:=inClass (top 39) 15
noncomputable abbrev kx:=inClass (top 39) 16
noncomputable abbrev mW:=inClass (top 39) 17
noncomputable abbrev lr:=inClass (top 39) 18
noncomputable abbrev lK:=inClass (top 39) 19
noncomputable abbrev lL:=inClass (top 39) 20
noncomputable abbrev mi:=inClass (top 39) 21
noncomputable abbrev r9:=inClass (top 39) 22
abbrev oe:=top 41
abbrev r_:=top 42
abbrev sd:=top 43
abbrev oK:=top 44
abbrev se:=top 45
abbrev oM:=top 46
abbrev mF:=top 47
abbrev qH:=top 48
abbrev mX:=top 49
abbrev lM:=top 50
abbrev oN:=top 51
abbrev ky:=top 52
abbrev Ey:=top 53
abbrev yw:=nL ["self","name","text","upper_name","lower_name"]
theorem wH:gv yw ["self","name","text","upper_name","lower_name"] (f_ mS):=mw
abbrev wI:=nL ["self","name","file","puts","cuts","other"]
theorem vg:gv wI ["self","name","file","puts","cuts","other"] (f_ l_):=mw
noncomputable abbrev pQ:=nL ["patch","names","line","name"]
theorem kA:gv pQ ["patch"] (f_ kR):=mw
abbrev nu:=nL ["patch","leant","name"]
theorem kJ:gv nu ["patch"] (f_ jS):=mw
noncomputable abbrev zJ:=nL ["patches","taken_back","live","patch"]
theorem lg:gv zJ ["patches"] (f_ n9):=mw
abbrev Ez:=nL ["patches","file","lines","patch"]
theorem qI:gv Ez ["patches","file"] (f_ rS):=mw
noncomputable abbrev pR:=nL ["patches","file","live","gone","patch","name","line"]
theorem ji:gv pR ["patches","file"] (f_ kS):=mw
abbrev wJ:=nL ["lines","straight","line"]
theorem kB:gv wJ ["lines"] (f_ ma):=mw
noncomputable abbrev Kc:=nL ["names","ahead","found","name"]
theorem wK:gv Kc ["names","ahead"] (f_ zI):=mw
abbrev xB:=nL ["lines","straight","ahead","line","climb","name","missing","other"]
theorem jI:gv xB ["lines"] (f_ oI):=mw
abbrev CD:=nL ["waiting","name"]
theorem tT:gv CD ["waiting"] (f_ qB):=mw
abbrev EA:=nL ["lines","ahead","by_name","waiting","line","row","name","other"]
theorem lu:gv EA ["lines","ahead"] (f_ vd):=mw
abbrev wL:=nL ["self","patches","file"]
theorem vj:gv wL ["self","patches","file"] (f_ me):=mw
abbrev wM:=nL ["self","first","second"]
theorem vk:gv wM ["self","first","second"] (f_ mf):=mw
abbrev tM:=nL ["self","pairs","first","second"]
theorem jJ:gv tM ["self"] (f_ kX):=mw
abbrev vp:=nL ["self","counts","first","second"]
theorem j_:gv vp ["self"] (f_ lJ):=mw
abbrev yx:=nL ["self","counts","left","places","place"]
theorem jw:gv yx ["self"] (f_ mT):=mw
abbrev CH:=nL ["name","sign"]
theorem tU:gv CH ["name"] (f_ qC):=mw
abbrev zK:=nL ["places","size","least","place"]
theorem lh:gv zK ["places","size"] (f_ oa):=mw
abbrev A3:=nL ["kept_names","size","behind","place"]
theorem og:gv A3 ["kept_names","size"] (f_ pd):=mw
abbrev EB:=nL ["patch","texts","kept_names","behind","lines","upper_name","place","text"]
theorem jK:gv EB ["patch","texts","kept_names"] (f_ rV):=mw
abbrev mj:=nL ["patch","file","row","texts","kept_names","left","first","second","cuts","line"]
theorem iK:gv mj ["patch","file","row","texts"] (f_ jY):=mw
abbrev yy:=nL ["self"]
theorem wN:gv yy ["self"] (f_ mU):=mw
abbrev CI:=nL ["self","store"]
theorem A4:gv CI ["self","store"] (f_ qD):=mw
abbrev zL:=nL ["self","store","name"]
theorem xC:gv zL ["self","store"] (f_ qE):=mw
abbrev tV:=nL ["self","store","patch","file","texts","sight","line"]
theorem oh:gv tV ["self","store","patch","file","texts"] (f_ my):=mw
abbrev zM:=nL ["self","store","patch","file","places","row","place"]
theorem sh:gv zM ["self","store","patch","file","places"] (f_ qF):=mw
abbrev EC:=nL ["self","store","patch","other"]
theorem CJ:gv EC ["self","store","patch","other"] (f_ rX):=mw
noncomputable abbrev xD:=nL ["self","store","source","patch","wanted","came","name"]
theorem lN:gv xD ["self","store","source","patch"] (f_ oJ):=mw
abbrev ED:=nL ["self","store","patch","name"]
theorem vq:gv ED ["self","store","patch"] (f_ rY):=mw
abbrev vt:=nL ["self","patch","name"]
theorem tW:gv vt ["self","patch"] (f_ nI):=mw
abbrev zN:=nL ["self","store","file","line"]
theorem xE:gv zN ["self","store","file"] (f_ qG):=mw
abbrev yz:=nL ["self","store","file"]
theorem wO:gv yz ["self","store","file"] (f_ mV):=mw
abbrev EE:=nL ["self","store","file"]
theorem CK:gv EE ["self","store","file"] (f_ rZ):=mw
abbrev oO:=nL ["self","store","name"]
theorem oj:gv oO ["self","store"] (f_ kx):=mw
abbrev yA:=nL ["self","store","file"]
theorem wQ:gv yA ["self","store","file"] (f_ mW):=mw
abbrev uq:=nL ["self","store"]
theorem tN:gv uq ["self","store"] (f_ lr):=mw
abbrev vw:=nL ["self","patch"]
theorem ur:gv vw ["self","patch"] (f_ lK):=mw
abbrev vy:=nL ["self","store","patch"]
theorem uu:gv vy ["self","store","patch"] (f_ lL):=mw
abbrev wR:=nL ["self","patch","files","name"]
theorem oP:gv wR ["self","patch","files"] (f_ mi):=mw
abbrev EF:=nL ["self","store","patch","needs","name"]
theorem qJ:gv EF ["self","store","patch"] (f_ r9):=mw
abbrev zO:=nL ["script","k"]
theorem yB:gv zO ["script","k"] (f_ oe):=mw
abbrev EG:=nL ["cell","k","bound","stir"]
theorem qK:gv EG ["cell","k","bound"] (f_ r_):=mw
abbrev EH:=nL ["cell","k","signs","size","base","far","found","j"]
theorem jo:gv EH ["cell","k"] (f_ sd):=mw
abbrev xF:=nL ["cell","signs","size","j"]
theorem lO:gv xF ["cell"] (f_ oK):=mw
abbrev EI:=nL ["texts","cell","at","line","more","way","out","turned"]
theorem kc:gv EI ["texts","cell"] (f_ se):=mw
noncomputable abbrev xG:=nL ["desk","stores","files","cell","name","backs","store","file","way","more","row","source","names","line"]
theorem jq:gv xG ["desk","stores","files","cell","name","backs"] (f_ oM):=mw
abbrev si:=nL ["script","first","most","backs","desk","stores","files","store","k","cell"]
theorem jb:gv si ["script","first","most","backs"] (f_ mF):=mw
abbrev CL:=nL ["found"]
theorem A5:gv CL ["found"] (f_ qH):=mw
abbrev yC:=nL ["row","line"]
theorem pS:gv yC ["row"] (f_ mX):=mw
abbrev vz:=nL ["found","pair"]
theorem om:gv vz ["found"] (f_ lM):=mw
abbrev xH:=nL ["places","bad","best","j","fits","i"]
theorem lP:gv xH ["places","bad"] (f_ oN):=mw
abbrev oQ:=nL ["found","count","bad","k","place","first","early","behind","one"]
theorem ix:gv oQ ["found","count","bad"] (f_ ky):=mw
abbrev Kd:=nL ["script","built","desk","store","source","name","file","row","quarrels","found","bad","pair","stays","places","place"]
theorem kY:gv Kd ["script"] (f_ Ey):=mw
structure Txt(mg:Qqx):Prop where
 iW:mg "len"=none
 jj:mg "range"=none
 GW:mg "max"=none
 jr:mg "isinstance"=none
 SA:mg "int"=none
 Pw:mg "bool"=none
 sj:mg "list"=none
 GX:mg "tuple"=none
 NK:mg "str"=none
 zP:mg "reversed"=none
 SD:mg "sorted"=none
 Z9:mg "set"=none
 EJ:mg "enumerate"=none
 Mu:mg "ValueError"=none
structure Ad where
 A6:Addr
 A7:FuncData
 CM:Addr
 CN:FuncData
 CO:Addr
 CP:FuncData
 Ke:Addr
 Kf:FuncData
 mY:Addr
 q8:FuncData
 ml:Addr
 pT:FuncData
 pU:Addr
 pV:FuncData
 nv:Addr
 nz:FuncData
 sr:Addr
 su:FuncData
 xI:Addr
 xJ:FuncData
 pW:Addr
 pX:FuncData
 uv:Addr
 uw:FuncData
 pY:Addr
 pZ:FuncData
 EK:Addr
 EL:FuncData
 xK:Addr
 xM:FuncData
 vA:Addr
 vB:FuncData
 EM:Addr
 EN:FuncData
 mq:Addr
 p0:FuncData
 p3:Addr
 p5:FuncData
 nA:Addr
 nB:FuncData
 oR:Addr
 oS:FuncData
 q9:Addr
 q_:FuncData
 vC:Addr
 vD:FuncData
 sv:Addr
 sx:FuncData
 tX:Addr
 tY:FuncData
 xN:Addr
 xO:FuncData
 p6:Addr
 p7:FuncData
 mZ:Addr
 ra:FuncData
 vE:Addr
 vF:FuncData
 A8:Addr
 A9:FuncData
 zQ:Addr
 zR:FuncData
 zS:Addr
 zT:FuncData
 tZ:Addr
 t_:FuncData
 zU:Addr
 zV:FuncData
 xP:Addr
 xQ:FuncData
 xR:Addr
 xS:FuncData
 xT:Addr
 xU:FuncData
 vG:Addr
 vH:FuncData
 CQ:Addr
 CS:FuncData
 zW:Addr
 zX:FuncData
 rb:Addr
 rf:FuncData
 xV:Addr
 xW:FuncData
 oT:Addr
 oU:FuncData
 rg:Addr
 rh:FuncData
 oq:Addr
 ou:FuncData
 oV:Addr
 oW:FuncData
 oX:Addr
 oY:FuncData
 p8:Addr
 p9:FuncData
 xX:Addr
 xY:FuncData
 sy:Addr
 sA:FuncData
 xZ:Addr
 x5:FuncData
 x8:Addr
 x9:FuncData
 x_:Addr
 ya:FuncData
 yb:Addr
 yc:FuncData
 yd:Addr
 ye:FuncData
 yf:Addr
 yg:FuncData
 vI:Addr
 vJ:FuncData
 rj:Addr
 rl:FuncData
 oZ:Addr
 o3:FuncData
 yh:Addr
 yi:FuncData
 o4:Addr
 o5:FuncData
 hV:Addr
 hZ:Addr
 hG:Addr
 gm:Addr
 lQ:Addr
 jD:Addr
 ju:Addr
 iL:Addr
 jZ:Addr
 ow:Addr
 lx:Addr
 ux:Addr
 tq:Addr
 nJ:Tok
 lR:Tok
 z:Unit
structure Ok(K:Qqy)(mg:Qqx)(A:Ad):Prop where
 sC:DF K mg "counts_with" pb A.A6 A.A7 ["text","new","below"]
 uy:DF K mg "most_pairs" qz A.CM A.CN ["old","new"]
 uA:DF K mg "place_from" qA A.CO A.CP ["texts","text","start"]
 kept:DF K mg "kept" FW A.Ke A.Kf ["old","new"]
 ua:DM K A.hV "__init__" "Line.__init__" mS A.mY A.q8 ["self","name","text","upper_name","lower_name"]
 lS:DM K A.hZ "__init__" "Patch.__init__" l_ A.ml A.pT ["self","name","file","puts","cuts","other"]
 sD:DF K mg "lines_named_by" kR A.pU A.pV ["patch"]
 o6:DF K mg "leans_straight_on" jS A.nv A.nz ["patch"]
 vK:DF K mg "live_patches" n9 A.sr A.su ["patches"]
 wU:DF K mg "lines_put" rS A.xI A.xJ ["patches","file"]
 sE:DF K mg "standing_lines" kS A.pW A.pX ["patches","file"]
 HS:DF K mg "files_with_lines" n_ A.uv A.uw ["patches"]
 sF:DF K mg "straight_ahead" ma A.pY A.pZ ["lines"]
 joined:DF K mg "joined" zI A.EK A.EL ["names","ahead"]
 BN:DF K mg "all_ahead" oI A.xK A.xM ["lines"]
 zY:DF K mg "first_free" qB A.vA A.vB ["waiting"]
 Kg:DF K mg "row_of" vd A.EM A.EN ["lines","ahead"]
 sG:DM K A.hG "__init__" "Sight.__init__" me A.mq A.p0 ["self","patches","file"]
 lT:DM K A.hG "is_ahead" "Sight.is_ahead" mf A.p3 A.p5 ["self","first","second"]
 jL:DM K A.hG "quarrelling" "Sight.quarrelling" kX A.nA A.nB ["self"]
 m_:DM K A.hG "most_from" "Sight.most_from" lJ A.oR A.oS ["self"]
 pe:DM K A.hG "staying" "Sight.staying" mT A.q9 A.q_ ["self"]
 uB:DF K mg "check_name" qC A.vC A.vD ["name"]
 vL:DF K mg "check_places" oa A.sv A.sx ["places","size"]
 yj:DF K mg "kept_behind" pd A.tX A.tY ["kept_names","size"]
 BO:DF K mg "new_lines" rV A.xN A.xO ["patch","texts","kept_names"]
 sH:DF K mg "changing_patch" jY A.p6 A.p7 ["patch","file","row","texts"]
 ub:DM K A.gm "__init__" "Desk.__init__" mU A.mZ A.ra ["self"]
 zZ:DM K A.gm "begin" "Desk.begin" qD A.vE A.vF ["self","store"]
 NL:DM K A.gm "stores" "Desk.stores" tS A.A8 A.A9 ["self"]
 Mv:DM K A.gm "patches" "Desk.patches" rW A.zQ A.zR ["self"]
 lU:DM K A.gm "has" "Desk.has" qE A.zS A.zT ["self","store"]
 yk:DM K A.gm "record" "Desk.record" my A.tZ A.t_ ["self","store","patch","file","texts"]
 z8:DM K A.gm "cut" "Desk.cut" qF A.zU A.zV ["self","store","patch","file","places"]
 BP:DM K A.gm "back" "Desk.back" rX A.xP A.xQ ["self","store","patch","other"]
 wV:DM K A.gm "take" "Desk.take" oJ A.xR A.xS ["self","store","source","patch"]
 BQ:DM K A.gm "drop" "Desk.drop" rY A.xT A.xU ["self","store","patch"]
 z_:DM K A.gm "leans" "Desk.leans" nI A.vG A.vH ["self","patch"]
 Px:DM K A.gm "files" "Desk.files" ve A.CQ A.CS ["self","store"]
 vM:DM K A.gm "row" "Desk.row" qG A.zW A.zX ["self","store","file"]
 mz:DM K A.gm "quarrels" "Desk.quarrels" mV A.rb A.rf ["self","store","file"]
 wW:DM K A.gm "stay" "Desk.stay" rZ A.xV A.xW ["self","store","file"]
 rm:DM K A.gm "patches_of" "Desk.patches_of" kx A.oT A.oU ["self","store"]
 kj:DM K A.gm "sight_of" "Desk.sight_of" mW A.rg A.rh ["self","store","file"]
 iU:DM K A.gm "check_store" "Desk.check_store" lr A.oq A.ou ["self","store"]
 rn:DM K A.gm "check_made" "Desk.check_made" lK A.oV A.oW ["self","patch"]
 lj:DM K A.gm "check_held" "Desk.check_held" lL A.oX A.oY ["self","store","patch"]
 lV:DM K A.gm "check_new" "Desk.check_new" mi A.p8 A.p9 ["self","patch","files"]
 tw:DM K A.gm "keep" "Desk.keep" r9 A.xX A.xY ["self","store","patch"]
 jc:DF K mg "_law_cell_at" oe A.sy A.sA ["script","k"]
 BR:DF K mg "_law_draw" r_ A.xZ A.x5 ["cell","k","bound"]
 p_:DF K mg "_law_name" sd A.x8 A.x9 ["cell","k"]
 wX:DF K mg "_law_text" oK A.x_ A.ya ["cell"]
 BS:DF K mg "_law_edit" se A.yb A.yc ["texts","cell"]
 BU:DF K mg "_law_deed" oM A.yd A.ye ["desk","stores","files","cell","name","backs"]
 BV:DF K mg "_law_desk" mF A.yf A.yg ["script","first","most","backs"]
 ox:DF K mg "_law_whole" qH A.vI A.vJ ["found"]
 uc:DF K mg "_law_row_form" mX A.rj A.rl ["row"]
 rq:DF K mg "_law_pairs_form" lM A.oZ A.o3 ["found"]
 wY:DF K mg "_law_most" oN A.yh A.yi ["places","bad"]
 rA:DF K mg "_law_stay_right" ky A.o4 A.o5 ["found","count","bad"]
 iP:Fn K A.hV
 Py:Mk K A.hV A.mY
 Pz:mg "Line"=some (.ref A.hV)
 hU:jU K A.hV "name"
 jM:jU K A.hV "text"
 iD:jU K A.hV "upper_name"
 iE:jU K A.hV "lower_name"
 js:Fn K A.hZ
 CT:Mk K A.hZ A.ml
 CU:mg "Patch"=some (.ref A.hZ)
 iX:jU K A.hZ "name"
 kl:jU K A.hZ "file"
 jO:jU K A.hZ "puts"
 jP:jU K A.hZ "cuts"
 i0:jU K A.hZ "other"
 i3:Fn K A.hG
 Mw:Mk K A.hG A.mq
 My:mg "Sight"=some (.ref A.hG)
 jy:jU K A.hG "ahead"
 ia:jU K A.hG "lines"
 gF:Fn K A.gm
 PB:Mk K A.gm A.mZ
 PD:mg "Desk"=some (.ref A.gm)
 i4:jU K A.gm "made"
 jd:jU K A.gm "needs"
 iy:jU K A.gm "held"
 Mz:Exc K mg "PatchError" A.lQ
 BW:Exc K mg "BadName" A.jD
 yl:Exc K mg "NameTaken" A.ju
 HU:Exc K mg "NoStore" A.iL
 BX:Exc K mg "NoPatch" A.jZ
 Kh:Exc K mg "NoLine" A.ow
 EO:Exc K mg "Unsettled" A.lx
 Ki:Exc K mg "Same" A.ux
 MA:Exc K mg "Leant" A.tq
 CV:mg "NAME_SIGNS"=some (.str (Str.ofString "abcdefghijklmnopqrstuvwxyz0123456789") A.nJ)
 sI:mg "LONGEST_NAME"=some (.int 12 A.lR)
 z:True
end
open PySem L2 PM
noncomputable def nk(n:Nm):List Key:=[Sum.inr n.1,Sum.inl (n.2:Int)]
theorem pf{a b:Nm}(h:nk a=nk b):a=b:=by
 unfold nk at h
 injection h with h1 h2
 injection h2 with h2 _
 exact Prod.ext (ack h1) (by have:=Sum.inl.inj h2;omega)
noncomputable abbrev nT(n:Nm):HO:=.tup ((nk n).map kV)
def lA(H:Hp)(v:V)(n:Nm):Prop:=∃t,v=.ref t∧H t=some (nT n)
def FX(H:Hp)(v:V):Option Nm→Prop
 | none=>v=.jm
 | some n=>lA H v n
def U_(v:V):Option Str→Prop
 | none=>v=.jm
 | some x=>v=.str x
noncomputable def MB(a b c d:V):List (Str×V):=[("name",a),("text",b),("upper_name",c),("lower_name",d)]
theorem i5{a b c d:V}:(MB a b c d).lookup ("name":Str)=some a:=by kernel_rfl
theorem Aa{a b c d:V}:(MB a b c d).lookup ("text":Str)=some b:=by kernel_rfl
theorem FY{a b c d:V}:(MB a b c d).lookup ("upper_name":Str)=some c:=by kernel_rfl
theorem FZ{a b c d:V}:(MB a b c d).lookup ("lower_name":Str)=some d:=by kernel_rfl
noncomputable def MC(a b c d e:V):List (Str×V):=[("name",a),("file",b),("puts",c),("cuts",d),("other",e)]
theorem sJ{a b c d e:V}:(MC a b c d e).lookup ("name":Str)=some a:=by kernel_rfl
theorem Kj{a b c d e:V}:(MC a b c d e).lookup ("file":Str)=some b:=by kernel_rfl
theorem ER{a b c d e:V}:(MC a b c d e).lookup ("puts":Str)=some c:=by kernel_rfl
theorem ES{a b c d e:V}:(MC a b c d e).lookup ("cuts":Str)=some d:=by kernel_rfl
theorem tD{a b c d e:V}:(MC a b c d e).lookup ("other":Str)=some e:=by kernel_rfl
def nc(A:Ad)(H:Hp)(a:Addr)(l:Ln):Prop:=∃dx vn vu vl,H a=some (.ins A.hV dx (MB vn (.str l.tx) vu vl))∧lA H vn l.nm∧FX H vu l.up∧FX H vl l.lo
def qL(A:Ad)(H:Hp)(a:Addr)(ls:List Ln):Prop:=∃as:List Addr,H a=some (.lst (as.map V.ref))∧Paired (nc A H) as ls
def Ab(H:Hp)(a:Addr)(ns:List Nm):Prop:=∃vs,H a=some (.lst vs)∧Paired (lA H) vs ns
def oz(A:Ad)(H:Hp)(a:Addr)(p:Pt):Prop:=∃dx vf pu cu vo,H a=some (.ins A.hZ dx (MC (.str p.nm) vf (.ref pu) (.ref cu) vo))∧U_ vf p.file∧qL A H pu p.iB∧Ab H cu p.j9∧U_ vo p.other
def yD(A:Ad)(H:Hp)(a:Addr)(ps:List Pt):Prop:=∃as:List Addr,H a=some (.lst (as.map V.ref))∧Paired (oz A H) as ps
section
variable{A:Ad}{H H':Hp}{a:Addr}
theorem lA.same{v:V}{n:Nm}(x:lA H v n)(s:gj H H'):lA H' v n:=by obtain⟨t,e,h⟩:=x;exact⟨t,e,s _ _ h⟩
theorem FX.same{v:V}{o:Option Nm}(x:FX H v o)(s:gj H H'):FX H' v o:=by
 cases o with
 | none=>exact x
 | some n=>exact lA.same x s
theorem nc.same{l:Ln}(x:nc A H a l)(s:gj H H'):nc A H' a l:=by
 obtain⟨dx,vn,vu,vl,h,h1,h2,h3⟩:=x
 exact⟨dx,vn,vu,vl,s _ _ h,h1.same s,h2.same s,h3.same s⟩
theorem qL.same{ls:List Ln}(x:qL A H a ls)(s:gj H H'):qL A H' a ls:=by
 obtain⟨as,h,p⟩:=x
 exact⟨as,s _ _ h,Paired.kC p fun _ _ z=>z.same s⟩
theorem Ab.same{ns:List Nm}(x:Ab H a ns)(s:gj H H'):Ab H' a ns:=by
 obtain⟨vs,h,p⟩:=x
 exact⟨vs,s _ _ h,Paired.kC p fun _ _ z=>z.same s⟩
theorem oz.same{p:Pt}(x:oz A H a p)(s:gj H H'):oz A H' a p:=by
 obtain⟨dx,vf,pu,cu,vo,h,h1,h2,h3,h4⟩:=x
 exact⟨dx,vf,pu,cu,vo,s _ _ h,h1,h2.same s,h3.same s,h4⟩
theorem yD.same{ps:List Pt}(x:yD A H a ps)(s:gj H H'):yD A H' a ps:=by
 obtain⟨as,h,p⟩:=x
 exact⟨as,s _ _ h,Paired.kC p fun _ _ z=>z.same s⟩
end
theorem iz{α β:Type}{F:α→β→Prop}{xs:List α}{ys:List β}(p:Paired F xs ys):∀{i:Nat} {x:α},xs[i]?=some x→∃y,ys[i]?=some y∧F x y:=by
 induction p with
 | nil=>intro i x h;simp at h
 | cons f t ih=>
  intro i x h
  cases i with
  | zero=>simp at h;subst h;exact⟨_,rfl,f⟩
  | succ i=>simpa using ih (by simpa using h)
theorem j6{α β:Type}{F:α→β→Prop}{xs:List α}{ys:List β}(p:Paired F xs ys):∀{i:Nat} {y:β},ys[i]?=some y→∃x,xs[i]?=some x∧F x y:=by
 induction p with
 | nil=>intro i x h;simp at h
 | cons f t ih=>
  intro i x h
  cases i with
  | zero=>simp at h;subst h;exact⟨_,rfl,f⟩
  | succ i=>simpa using ih (by simpa using h)
theorem uC{α β:Type}{F:α→β→Prop}{xs zs:List α}{ys ws:List β}(p:Paired F xs ys)(q:Paired F zs ws):Paired F (xs++zs) (ys++ws):=by
 induction p with
 | nil=>exact q
 | cons f t ih=>exact .cons f ih
theorem iA{α β:Type}{F:α→β→Prop}{xs:List α}{ys:List β}{x:α}{y:β}(p:Paired F xs ys)(h:F x y):Paired F (xs++[x]) (ys++[y]):=uC p (.cons h .nil)
theorem Ac{α β:Type}{F:α→β→Prop}{xs:List α}{ys:List β}(p:Paired F xs ys):Paired F xs.reverse ys.reverse:=by
 induction p with
 | nil=>exact .nil
 | cons f t ih=>rw[abZ,abZ];exact iA ih f
theorem ke{as:List Addr}{i:Nat}{v:V}(h:(as.map V.ref)[i]?=some v):∃b,as[i]?=some b∧v=.ref b:=by
 rw[Z4] at h
 obtain⟨b,e,rfl⟩:=Option.map_eq_some_iff.mp h
 exact⟨b,e,rfl⟩
theorem U_.eq{v:V}{o:Option Str}(h:U_ v o)(f:Str):decide (v=.str f)=decide (o=some f):=by
 cases o with
 | none=>rw[show v=.jm from h,Z6 (fun z=>by cases z),Z6 (fun z=>by cases z)]
 | some x=>
  rw[show v=.str x from h]
  by_cases e:x=f
  ·subst e;rw[WM rfl,WM rfl]
  ·rw[Z6 (fun z=>e (V.str.inj z)),Z6 (fun z=>e (aaA z))]
theorem NM{α:Type}{xs:List α}{x:α}{i:Nat}(h:xs.length≤i:=by assumption):(xs++[x]).length≤i+1:=by rw[W4];exact Nat.succ_le_succ h
def uN(n:Nat):Prop:=n≤4000
theorem uN.sz{n:Nat}(h:uN n):n≤sizeLine:=XI h (by decide)
section
variable{P:Program}{w:World}{K:Qqy}{mg:Qqx}{base:Heap}{A:Ad}
def PH(A:Ad):Sp:=fun vs H Q _=>∃(a:Addr)(ps:List Pt),vs=[.ref a]∧yD A H a ps∧uN ps.length∧∀p H',gj H H'→H p=none→yD A H' p (live ps)→Q (.ref p) H'
def Tb(kvs:List (Key×V))(t:List Str):Prop:=∀x,(iI kvs (Sum.inr x)).isSome=decide (x∈t)
theorem Tb.put{kvs:List (Key×V)}{t:List Str}(h:Tb kvs t)(y:Str)(v:V):Tb (putK kvs (Sum.inr y) v) (y::t):=fun x=>by
 rw[jW]
 by_cases e:x=y
 ·subst e;rw[aar rfl,WM aal];rfl
 ·rw[aap (fun z=>e (ack z)),h x]
  by_cases m:x∈t
  ·rw[WM m,WM (aae _ m)]
  ·rw[Z6 m,Z6 (fun z=>(Z8.mp z).elim e m)]
theorem F_(p:Pt)(r:List Pt)(t:List Str):nr (p::r) t=if p.nm∈t then nr r t else p::nr r (match p.other with|some o=>o::t|none=>t):=rfl
theorem yE(T:Txt mg)(O:Ok K mg A):ij P w K mg base mr 1 A.sr A.su ["patches"] (PH A):=by
 refine O.vK.f.qr lg fun jl A0 outer s H vs Q E hr h=>?_
 obtain⟨a,ps,rfl,⟨as,ha,pa⟩,jA,q⟩:=h
 have hlen:=aaj pa
 refine⟨_,(de (kW 1 lg nS)
   (de (kW 2 lg (iO d_))
   (de (il aam rfl (Mg rfl T.zP (a_ (pv 0) d_)) (qY 3 lg) (fR (ik (i9 (jX (by exact iG hr) (gC (pv 3) rfl) (pv 1))) (de (hX (nP aaI aaM aaN jC (pv 2) (a_ (pv 3) d_)))
   (fR (ik (i9 (sZ (gC (pv 3) rfl))) (fR (jn (by exact iG hr) (pv 1) (gC (pv 3) rfl) j4 rfl)) g_))) g_)))
   (fR (hE (FK rfl (by rfl) T.sj (by rfl) T.zP (a_ (pv 2) d_))))))),?_⟩
 refine NJ ?_;intro _ _ _
 intro t ht
 have s1:gj H (upd H t (.dK [])):=(gj.refl H).new ht
 refine⟨L2.jA,fun l hl=>?_⟩
 have s2:gj H (upd (upd H t (.dK [])) l (.lst [])):=s1.new hl
 have Qz:t≠l:=fun z=>by rw[z] at hl;rw[b_] at hl;cases hl
 refine⟨_,rfl,a,_,rfl,gH.of (s2 a _ ha),Mh (K:=K) (a:=a) (xs:=as.map V.ref) (fun i σ H2=>∃(v:Option V)(kvs:List (Key×V))(tb:List Str)(ls:List Addr)(lp:List Pt),σ=[rr a,rr t,rr l,v]∧gj H H2∧H2 t=some (.dK kvs)∧Tb kvs tb∧kvs.length≤i∧H2 l=some (.lst (ls.map V.ref))∧ls.length≤i∧Paired (oz A H) ls lp∧lp++nr (ps.reverse.drop i) tb=nr ps.reverse [])
  ⟨none,[],[],[],[],rfl,s2,by rw[e_ Qz];exact b_,(fun x=>rfl),WL _,b_,WL _,.nil,rfl⟩ (by rintro _ _ _ _ ⟨_,_,_,_,_,_,s3,_⟩;exact gH.of (s3 a _ ha)) ?_ ?_⟩
 ·rintro i v σ H2 hx ⟨v0,kvs,tb,ls,lp,rfl,s3,h1,h2,h3,h4,h5,h6,h7⟩
  rw[←List.map_reverse] at hx
  obtain⟨b,hb,rfl⟩:=ke hx
  obtain⟨p,hp,dx,vf,pu,cu,vo,g1,g2,g3,g4,g5⟩:=iz (Ac pa) hb
  have hi:i<ps.reverse.length:=(List.getElem?_eq_some_iff.mp hp).1
  have Bq:i<4000:=by rw[abr] at hi;exact aaD hi jA
  have hd:ps.reverse.drop i=p::ps.reverse.drop (i+1):=by rw[aaT hi];congr 1;exact(List.getElem?_eq_some_iff.mp hp).2
  rw[hd] at h7
  refine⟨_,rfl,b,A.hZ,dx,_,_,rfl,s3 _ _ g1,O.js,O.iX,sJ,_,rfl,t,_,rfl,iZ.k (k:=Sum.inr p.nm) h1,_,rfl,?_⟩
  rw[h2 p.nm]
  rw[F_] at h7
  by_cases hm:p.nm∈tb
  ·rw[aar hm] at h7
   rw[WM hm]
   exact i_ ⟨_,kvs,tb,ls,lp,rfl,s3,h1,h2,by omega,h4,by omega,h6,h7⟩
  ·rw[aap hm] at h7
   rw[Z6 hm]
   refine kD ?_
   refine⟨_,rfl,.inl ⟨rfl,_,gH.of h4⟩,_,rfl,l,_,_,rfl,rfl,h4,by rw[TU];exact abk h5 (acp Bq (by decide)),?_⟩
   have XJ:H l=none:=s1.free hl
   have s4:gj H (upd H2 l (.lst (ls.map V.ref++[V.ref b]))):=s3.upd XJ
   have Nb:upd H2 l (.lst (ls.map V.ref++[V.ref b])) t=some (.dK kvs):=by rw[e_ Qz];exact h1
   have e4:upd H2 l (.lst (ls.map V.ref++[V.ref b])) l=some (.lst ((ls++[b]).map V.ref)):=by rw[b_,aat];rfl
   have pp:Paired (oz A H) (ls++[b]) (lp++[p]):=iA h6 ⟨dx,vf,pu,cu,vo,g1,g2,g3,g4,g5⟩
   have T2:(ls++[b]).length≤i+1:=NM
   refine⟨_,rfl,b,A.hZ,dx,_,_,rfl,s4 _ _ g1,O.js,O.i0,tD,_,rfl,?_⟩
   cases ho:p.other with
   | none=>
    rw[ho] at g5 h7
    rw[show vo=V.jm from g5]
    exact⟨_,kvs,tb,_,_,rfl,s4,Nb,h2,by omega,e4,T2,pp,by rw[aaQ];exact h7⟩
   | some x=>
    rw[ho] at g5 h7
    rw[show vo=V.str x from g5] at g1 ⊢
    refine⟨_,rfl,_,rfl,b,A.hZ,dx,_,_,rfl,s4 _ _ g1,O.js,O.i0,tD,t,_,rfl,mK.k (k:=Sum.inr x) Nb (abk h3 (acp Bq (by decide))),?_⟩
    have hlk:=jf kvs (Sum.inr x:Key) (V.bl true)
    have htH:H t=none:=ht
    exact⟨_,_,x::tb,_,_,rfl,s4.upd htH,b_,h2.put x _,by omega,by rw[e_ Qz.symm];exact e4,T2,pp,by rw[aaQ];exact h7⟩
 ·rintro σ H2 ⟨v0,kvs,tb,ls,lp,rfl,s3,h1,h2,h3,h4,h5,h6,h7⟩
  rw[TU] at h3 h5 h7
  rw[hlen,←abr,acj] at h7
  have h7:lp=nr ps.reverse []:=by rw[show nr [] tb=[] from rfl,aaK] at h7;exact h7
  refine⟨_,rfl,l,_,rfl,gH.of h4,fun p hp=>?_⟩
  have s4:=s3.new (o:=.lst (ls.map V.ref).reverse) hp
  refine q p _ s4 (s3.free hp) ⟨ls.reverse,by rw[b_,List.map_reverse],?_⟩
  unfold live
  rw[←h7]
  exact Paired.kC (Ac h6) fun _ _ z=>z.same s4
theorem sL{α β:Type}{f:α→List β}{ps qs:List α}(h:ps.Sublist qs):(ps.flatMap f).Sublist (qs.flatMap f):=by
 induction h with
 | slnil=>exact aaF _
 | cons x _ ih=>rw[aaH];exact ih.trans (aa5 _ _)
 | cons_cons x _ ih=>rw[aaH,aaH];exact(aaF _).append ih
structure Small(ps:List Pt):Prop where
 many:uN ps.length
 iB:uN (ps.flatMap (·.iB)).length
 j9:uN (ps.flatMap (·.j9)).length
theorem Small.sub{ps qs:List Pt}(h:ps.Sublist qs)(s:Small qs):Small ps:=⟨XI h.length_le s.many,XI (sL h).length_le s.iB,XI (sL h).length_le s.j9⟩
theorem qM(ps:List Pt)(f:Str):(gE ps f).length≤(ps.flatMap (·.iB)).length:=(sL aaO).length_le
theorem A_(ps:List Pt)(p:Pt)(f:Str):gE (ps++[p]) f=gE ps f++if p.file=some f then p.iB else[]:=by
 unfold gE
 rw[aaB,abe]
 by_cases h:p.file=some f
 ·rw[aar h,aaa (by simpa using h),aaP,aaH,abN,aaK]
 ·rw[aap h,aad (by simpa using h),aaP,abN]
theorem take_snoc{α:Type}{xs:List α}{i:Nat}{x:α}(h:xs[i]?=some x):xs.take (i+1)=xs.take i++[x]:=by rw[List.take_add_one,h];rfl
def Rc(kvs:List (List Key×V))(ns:List Nm):Prop:=∀n,(iI kvs (nk n)).isSome=decide (n∈ns)
theorem Rc.put{kvs:List (List Key×V)}{ns:List Nm}(h:Rc kvs ns)(y:Nm)(v:V):Rc (putK kvs (nk y) v) (ns++[y]):=fun x=>by
 rw[jW]
 by_cases e:x=y
 ·subst e;rw[aar rfl,WM (by simp)];rfl
 ·rw[aap (fun z=>e (pf z)),h x]
  by_cases m:x∈ns
  ·rw[WM m,WM (aas _ m)]
  ·rw[Z6 m,Z6 (fun z=>(Z3.mp z).elim m fun z=>e (WG.mp z))]
def SE(A:Ad):Sp:=fun vs H Q _=>∃(a:Addr)(ps:List Pt)(f:Str),vs=[.ref a,.str f]∧yD A H a ps∧Small ps∧∀p H',gj H H'→H p=none→qL A H' p (gE ps f)→Q (.ref p) H'
theorem vN(T:Txt mg)(O:Ok K mg A):ij P w K mg base mr 1 A.xI A.xJ ["patches","file"] (SE A):=by
 refine O.wU.f.qr qI fun jl A0 outer s H vs Q E hr h=>?_
 obtain⟨a,ps,f,rfl,⟨as,ha,pa⟩,sm,q⟩:=h
 have hlen:=aaj pa
 refine⟨_,(de (kW 2 qI (iO d_))
   (de (il aam rfl (ir (pv 0)) (qY 3 qI) (fR (ik (ib l4 (gC (pv 3) rfl) (pv 1) (ip _)) (fR (hX (nP aaI PySem.F.slot_list_extend PySem.F.type_list_extend BA (pv 2) (a_ (gC (pv 3) rfl) d_)))) g_)))
   (fR (hE (pv 2))))),?_⟩
 refine DO ?_;intro _ _
 refine⟨L2.jA,fun l hl=>?_⟩
 have s1:gj H (upd H l (.lst [])):=(gj.refl H).new hl
 dsimp only [mB];refine JM ?_;intro _
 let Jv:=fun(i:Nat) (σ:St) (H2:Hp)=>∃(v:Option V)(ls:List Addr),σ=[rr a,rs f,rr l,v]∧gj H H2∧H2 l=some (.lst (ls.map V.ref))∧Paired (nc A H) ls (gE (ps.take i) f)
 refine⟨_,rfl,a,rfl,⟨_,gH.of (s1 a _ ha)⟩,iM (K:=K) (a:=a) (xs:=as.map V.ref) Jv
  ⟨none,[],rfl,s1,b_,.nil⟩ (by rintro _ _ _ _ ⟨_,_,_,s3,_⟩;exact gH.of (s3 a _ ha)) ?_ ?_⟩
 ·rintro i v σ H2 hx ⟨v0,ls,rfl,s3,h4,h6⟩
  obtain⟨b,hb,rfl⟩:=ke hx
  obtain⟨p,hp,dx,vf,pu,cu,vo,g1,g2,⟨as2,g3,T3⟩,g4,g5⟩:=iz pa hb
  have e:gE (ps.take (i+1)) f=gE (ps.take i) f++if p.file=some f then p.iB else[]:=by rw[take_snoc hp,A_]
  refine⟨_,rfl,b,A.hZ,dx,_,_,rfl,s3 _ _ g1,O.js,O.kl,Kj,_,rfl,?_⟩
  have hf:OQ vf (V.str f)=true:=by
   cases hq:p.file with
   | none=>rw[hq] at g2;rw[show vf=V.jm from g2];rfl
   | some x=>rw[hq] at g2;rw[show vf=V.str x from g2];rfl
  refine⟨hf,_,rfl,?_⟩
  rw[g2.eq f]
  by_cases hm:p.file=some f
  ·rw[aar hm] at e
   rw[WM hm]
   refine kD ?_
   refine⟨_,rfl,.inl ⟨rfl,_,gH.of h4⟩,_,rfl,b,A.hZ,dx,_,_,rfl,s3 _ _ g1,O.js,O.jO,ER,l,pu,_,_,rfl,rfl,h4,s3 _ _ g3,?_,?_⟩
   ·rw[TU,TU,aaj h6,aaj T3,←W4,←e]
    exact XI (qM _ f) (Small.sub (acf _ _) sm).iB.sz
   ·refine⟨_,ls++as2,rfl,s3.upd hl,by rw[b_,aat],?_⟩
    rw[e]
    exact uC h6 T3
  ·rw[aap hm,aaK] at e
   rw[Z6 hm]
   exact i_ ⟨_,ls,rfl,s3,h4,by rw[e];exact h6⟩
 ·rintro σ H2 ⟨v0,ls,rfl,s3,h4,h6⟩
  rw[TU,hlen,aaq] at h6
  exact⟨_,rfl,q l _ s3 hl ⟨ls,h4,Paired.kC h6 fun _ _ z=>z.same s3⟩⟩
theorem HV(ps:List Pt)(p:Pt):gone (ps++[p])=gone ps++p.j9:=by
 unfold gone
 rw[abe,aaH,abN,aaK]
def MD(A:Ad):Sp:=fun vs H Q _=>∃(a:Addr)(ps:List Pt)(f:Str),vs=[.ref a,.str f]∧yD A H a ps∧Small ps∧∀p H',gj H H'→H p=none→qL A H' p (k9 ps f)→Q (.ref p) H'
theorem vO(T:Txt mg)(O:Ok K mg A):ij P w K mg base mr 2 A.pW A.pX ["patches","file"] (MD A):=by
 have Ax:=@yE P w K mg base A T O
 have sW:=@vN P w K mg base A T O
 refine O.sE.f.qr ji fun jl A0 outer s H vs Q E hr h=>?_
 obtain⟨a,ps,f,rfl,pa,sm,q⟩:=h
 refine⟨_,(de (kW 2 ji (o_ O.vK Ax hr (a_ (pv 0) d_)))
   (de (lq (i:=3) ji.nd rfl (Or.inr rfl) lD)
   (de (il aam rfl (ir (pv 2)) (qY 4 ji) (fR (il aam rfl (ir (gC (pv 4) rfl)) (qY 5 ji) (fR (jn (by exact iG hr) (pv 3) (pv 5) j4 rfl)))))
   (fR (hE (zm pR (f_ kS).names [6] rfl (ir (o_ O.wU sW hr (a_ (pv 2) (a_ (pv 1) d_)))) rfl (by decide+kernel) (fun _ _ _ _=>(iw (i:=6) ji.nd rfl (Or.inl rfl))) (fun _ _ _ _=>⟨_,mL (i9 (jX (by exact iG hr) (gC (pv 6) rfl) (pv 3))),by(try simp only [ku]);rfl⟩) (fun _ _ _ _=>AX (pv 6)))))))),?_⟩
 refine NJ ?_;intro _ _ _
 refine⟨_,rfl,a,ps,rfl,pa,sm.many,fun l H1 s1 N_ Nk=>?_⟩
 have XM:Small (live ps):=sm.sub (Ew ps)
 obtain⟨as,ha,pl⟩:=id Nk
 have hlen:=aaj pl
 intro g hg
 have s2:gj H1 (upd H1 g (.dT [])):=(gj.refl H1).new hg
 dsimp only [mB];refine JM ?_;intro _
 let Jv:=fun(i:Nat) (σ:St) (H2:Hp)=>∃(v4 v5:Option V)(kvs:List (List Key×V)),σ=[rr a,rs f,rr l,rr g,v4,v5,none]∧gj H1 H2∧H2 g=some (.dT kvs)∧Rc kvs (gone ((live ps).take i))∧kvs.length≤(gone ((live ps).take i)).length
 refine⟨_,rfl,l,rfl,⟨_,gH.of (s2 l _ ha)⟩,iM (K:=K) (a:=l) (xs:=as.map V.ref) Jv
  ⟨none,none,[],rfl,s2,b_,(fun x=>rfl),WL _⟩ (by rintro _ _ _ _ ⟨_,_,_,_,s3,_⟩;exact gH.of (s3 l _ ha)) ?_ ?_⟩
 ·rintro i v σ H2 hx ⟨v4,v5,kvs,rfl,s3,h1,h2,h3⟩
  obtain⟨b,hb,rfl⟩:=ke hx
  obtain⟨p,hp,dx,vf,pu,cu,vo,g1,g2,g3,⟨cs,g4,Rp⟩,g5⟩:=iz pl hb
  have e:gone ((live ps).take (i+1))=gone ((live ps).take i)++p.j9:=by rw[take_snoc hp,HV]
  have hsz:(gone ((live ps).take i)++p.j9).length≤4000:=by rw[←e];exact(XM.sub (acf _ _)).j9
  rw[W4] at hsz
  have IT:=aaj Rp
  let Jv:=fun(j:Nat) (σ:St) (H3:Hp)=>∃(v5:Option V)(kvs:List (List Key×V)),σ=[rr a,rs f,rr l,rr g,rr b,v5,none]∧gj H1 H3∧H3 g=some (.dT kvs)∧Rc kvs (gone ((live ps).take i)++p.j9.take j)∧kvs.length≤(gone ((live ps).take i)).length+j
  refine⟨_,rfl,b,A.hZ,dx,_,_,rfl,s3 _ _ g1,O.js,O.jP,ES,cu,rfl,⟨_,gH.of (s3 _ _ g4)⟩,iM (K:=K) (a:=cu) (xs:=cs) Jv
   ⟨v5,kvs,rfl,s3,h1,by rw[abE,aaK];exact h2,by omega⟩ (by rintro _ _ _ _ ⟨_,_,_,s4,_⟩;exact gH.of (s4 cu _ g4)) ?_ ?_⟩
  ·rintro j v σ H3 hx ⟨v5,kvs,rfl,s4,h1,h2,h3⟩
   obtain⟨n,hn,t,rfl,ht⟩:=iz Rp hx
   have hj:j<cs.length:=(List.getElem?_eq_some_iff.mp hx).1
   refine⟨_,rfl,_,rfl,g,_,rfl,mK.t (k:=nk n) h1 (s4 _ _ ht) (abk (m:=4000) (by omega) (by decide)),?_⟩
   have hlk:=jf kvs (nk n) (V.bl true)
   refine⟨_,_,rfl,s4.upd hg,b_,?_,by omega⟩
   rw[take_snoc hn,←aaQ]
   exact h2.put n _
  ·rintro σ H3 ⟨v5,kvs,rfl,s4,h1,h2,h3⟩
   rw[IT,aaq] at h2
   rw[IT] at h3
   exact⟨_,v5,kvs,rfl,s4,h1,by rw[e];exact h2,by rw[e,W4];exact h3⟩
 ·rintro σ H2 ⟨v4,v5,kvs,rfl,s3,h1,h2,h3⟩
  rw[TU,hlen,aaq] at h2
  refine⟨_,rfl,_,rfl,l,live ps,f,rfl,Nk.same s3,XM,fun p H3 s4 qj ⟨XN,h3a,h3p⟩=>?_⟩
  have T4:XN.length=(gE (live ps) f).length:=aaj h3p
  have hbound:XN.length≤4000:=by rw[T4];exact XI (qM _ _) XM.iB
  refine⟨p,rfl,⟨_,gH.of h3a⟩,kO (K:=K) (a:=p) (xs:=XN.map V.ref) (by rw[TU];exact XI hbound (by decide)) (fun i ys σ H4=>∃(v6:Option V)(ls:List Addr),σ=[rr a,rs f,rr l,rr g,v4,v5,v6]∧H4=H3∧ys=ls.map V.ref∧ls.length≤i∧Paired (nc A H3) ls (((gE (live ps) f).take i).filter fun l=>l.nm∉gone (live ps)))
   ⟨none,[],rfl,rfl,rfl,WL _,.nil⟩ (by rintro _ _ _ _ _ ⟨_,ls,_,e,e2,e3,_⟩;subst e e2;exact⟨gH.of h3a,by rw[TU];exact e3⟩) ?_ ?_⟩
  ·rintro i v ys σ H4 hx ⟨v6,ls,rfl,rfl,rfl,e3,h6⟩
   obtain⟨b,hb,rfl⟩:=ke hx
   obtain⟨ln,uO,dx,vn,vu,vl,k1,⟨t,rfl,k2⟩,k3,k4⟩:=iz h3p hb
   refine⟨_,rfl,b,A.hV,dx,_,_,rfl,k1,O.iP,O.hU,i5,_,rfl,g,_,rfl,iZ.t (k:=nk ln.nm) (s4 _ _ h1) k2,_,rfl,?_⟩
   rw[h2 ln.nm,take_snoc uO,aaB]
   by_cases hm:ln.nm∈gone (live ps)
   ·rw[WM hm]
    refine i_ ⟨_,ls,rfl,rfl,rfl,by omega,?_⟩
    rw[aad (by simpa using hm),aaP,aaK]
    exact h6
   ·rw[Z6 hm]
    refine kD ⟨_,rfl,_,ls++[b],rfl,rfl,by rw[aat];rfl,NM,?_⟩
    rw[aaa (by simpa using hm),aaP]
    exact iA h6 ⟨dx,.ref t,vu,vl,k1,⟨t,rfl,k2⟩,k3,k4⟩
  ·rintro ys σ H4 ⟨v6,ls,rfl,rfl,rfl,e3,h6⟩ p2 AZ
   rw[TU,T4,aaq] at h6
   have s5:=((s1.trans s3).trans s4).new (o:=.lst (ls.map V.ref)) AZ
   refine q p2 _ s5 (((s1.trans s3).trans s4).free AZ) ⟨ls,b_,?_⟩
   exact Paired.kC h6 fun _ _ z=>z.same ((gj.refl H4).new AZ)
theorem qc{κ:Type}[DecidableEq κ](kvs:List (κ×V))(k:κ)(v:V):(putK kvs k v).map (·.1)=if k∈kvs.map (·.1) then kvs.map (·.1) else kvs.map (·.1)++[k]:=by
 unfold putK
 by_cases h:k∈kvs.map (·.1)
 ·have h':(kvs.any fun kv=>decide (kv.1=k))=true:=by
   obtain⟨p,hp,e⟩:=List.mem_map.mp h
   exact List.any_eq_true.mpr ⟨p,hp,WM e⟩
  rw[aar h',aar h,List.map_map]
  refine ab1 fun p _=>?_
  show(if p.1=k then(p.1,v) else p).1=p.1
  split<;>rfl
 ·have h':¬(kvs.any fun kv=>decide (kv.1=k))=true:=fun z=>by
   obtain⟨p,hp,e⟩:=List.any_eq_true.mp z
   exact h (List.mem_map.mpr ⟨p,hp,aak e⟩)
  rw[aap h',aap h,aat]
  rfl
theorem tE{κ:Type}[DecidableEq κ]{kvs:List (κ×V)}{k:κ}:(iI kvs k).isSome=true↔k∈kvs.map (·.1):=by
 induction kvs with
 | nil=>exact⟨(fun z=>by cases z),(fun z=>by cases z)⟩
 | cons p r ih=>
  by_cases e:p.1=k
  ·rw[jk e,aax,e];exact⟨fun _=>aal,fun _=>rfl⟩
  ·rw[je e,ih,aax]
   exact⟨fun m=>aae _ m,fun z=>(Z8.mp z).elim (fun z=>absurd z.symm e) id⟩
theorem ET{κ:Type}[DecidableEq κ]{kvs:List (κ×V)}{k:κ}(h:k∉kvs.map (·.1)):iI kvs k=none:=by
 cases e:iI kvs k with
 | none=>rfl
 | some v=>exact absurd (tE.mp (by rw[e];rfl)) h
theorem sM{n:Nm}{l:List Nm}:nk n∈l.map nk↔n∈l:=by
 constructor
 ·intro h
  obtain⟨m,hm,e⟩:=List.mem_map.mp h
  rw[←pf e];exact hm
 ·exact fun h=>XE h
def Ba(H:Hp)(a:Addr)(l:List Nm):Prop:=∃dk,H a=some (.dT dk)∧dk.map (·.1)=l.map nk
noncomputable def oA(l:List Nm)(m:Nm):List Nm:=if m∈l then l else l++[m]
theorem sN{l:List Nm}{m x:Nm}:x∈oA l m↔x∈l∨x=m:=by
 unfold oA
 split
 ·rename_i h
  exact⟨.inl,fun z=>z.elim id fun z=>z▸h⟩
 ·simp
theorem yS{l:List Nm}{m:Nm}(h:l.Nodup):(oA l m).Nodup:=by
 unfold oA
 split
 ·exact h
 ·rename_i hm
  rw[aa3]
  exact⟨h,by simp,fun a ha b hb z=>hm (by rw[WG.mp hb] at z;exact z▸ha)⟩
theorem EU{l:List Nm}{m:Nm}:(oA l m).length≤l.length+1:=by
 unfold oA
 split
 ·omega
 ·rw[W4];exact WL _
theorem vP{dk:List (List Key×V)}{l:List Nm}(h:dk.map (·.1)=l.map nk)(m:Nm)(v:V):(putK dk (nk m) v).map (·.1)=(oA l m).map nk:=by
 rw[qc,h]
 unfold oA
 by_cases e:m∈l
 ·rw[aar (sM.mpr e),aar e]
 ·rw[aap (fun z=>e (sM.mp z)),aap e,aat];rfl
noncomputable def zk(ns:List Nm)(ds:List Addr):List (List Key×V):=List.zipWith (fun n d=>(nk n,V.ref d)) ns ds
theorem GY:∀{ns:List Nm} {ds:List Addr} (n:Nm) (d:Addr),ns.length=ds.length→zk (ns++[n]) (ds++[d])=zk ns ds++[(nk n,V.ref d)]
 | [],[],_,_,_=>rfl
 | [],_::_,_,_,h=>by simp at h
 | _::_,[],_,_,h=>by simp at h
 | x::r,y::t,n,d,h=>by
  show(nk x,V.ref y)::zk (r++[n]) (t++[d])=_
  rw[GY n d (by simpa using h)]
  rfl
theorem CW:∀{ns:List Nm} {ds:List Addr},ns.length=ds.length→(zk ns ds).map (·.1)=ns.map nk
 | [],[],_=>rfl
 | [],_::_,h=>by simp at h
 | _::_,[],h=>by simp at h
 | x::r,y::t,h=>by
  show nk x::(zk r t).map (·.1)=nk x::r.map nk
  rw[CW (by simpa using h)]
noncomputable def tO:List Nm→List Addr→Nm→Addr
 | x::r,d::t,n=>if x=n then d else tO r t n
 | _,_,_=>0
theorem Kk:∀{ns:List Nm} {ds:List Addr} {n:Nm},ns.length=ds.length→n∈ns→iI (zk ns ds) (nk n)=some (.ref (tO ns ds n))
 | [],_,_,_,hn=>by cases hn
 | _::_,[],_,h,_=>by simp at h
 | x::r,y::t,n,h,hn=>by
  show iI ((nk x,V.ref y)::zk r t) (nk n)=some (.ref (if x=n then y else tO r t n))
  by_cases e:x=n
  ·subst e
   rw[jk rfl,aar rfl]
  ·have hr:n∈r:=(Z8.mp hn).elim (fun z=>absurd z.symm e) id
   rw[je (fun z=>e (pf z)),Kk (by simpa using h) hr,aap e]
theorem CY:∀{ns:List Nm} {ds:List Addr} {n:Nm},ns.length=ds.length→n∈ns→tO ns ds n∈ds
 | [],_,_,_,hn=>by cases hn
 | _::_,[],_,h,_=>by simp at h
 | x::r,y::t,n,h,hn=>by
  show(if x=n then y else tO r t n)∈y::t
  by_cases e:x=n
  ·rw[aar e];exact aal
  ·rw[aap e]
   exact aae _ (CY (by simpa using h) ((Z8.mp hn).elim (fun z=>absurd z.symm e) id))
theorem Kl:∀{ns:List Nm} {ds:List Addr} {n m:Nm},ns.length=ds.length→ds.Nodup→n∈ns→m∈ns→tO ns ds n=tO ns ds m→n=m
 | [],_,_,_,_,_,hn,_,_=>by cases hn
 | _::_,[],_,_,h,_,_,_,_=>by simp at h
 | x::r,y::t,n,m,h,nd,hn,hm,e=>by
  have hl:r.length=t.length:=by simpa using h
  rw[aa0] at nd
  have e:(if x=n then y else tO r t n)=(if x=m then y else tO r t m):=e
  by_cases e1:x=n
  ·by_cases e2:x=m
   ·exact e1.symm.trans e2
   ·rw[aar e1,aap e2] at e
    exact absurd (e▸CY hl ((Z8.mp hm).elim (fun z=>absurd z.symm e2) id)) nd.1
  ·have Ri:=(Z8.mp hn).elim (fun z=>absurd z.symm e1) id
   by_cases e2:x=m
   ·rw[aap e1,aar e2] at e
    exact absurd (e▸CY hl Ri) nd.1
   ·rw[aap e1,aap e2] at e
    exact Kl hl nd.2 Ri ((Z8.mp hm).elim (fun z=>absurd z.symm e2) id) e
structure WO(H:Hp)(p:Addr)(ns:List Nm)(ad:Nm→Addr)(sf:Nm→List Nm):Prop where
 at_:∃kvs,H p=some (.dT kvs)∧(∀n∈ns,iI kvs (nk n)=some (.ref (ad n)))∧kvs.map (·.1)=ns.map nk
 inj:∀n∈ns,∀m∈ns,ad n=ad m→n=m
 ks:∀n∈ns,Ba H (ad n) (sf n)
theorem ME{ls:List Ln}{l:Ln}{m n:Nm}:Sa (ls++[l]) m n↔Sa ls m n∨(l.nm=n∧l.up=some m)∨(l.nm=m∧l.lo=some n):=by
 unfold Sa
 constructor
 ·rintro⟨x,hx,q⟩
  rcases Z3.mp hx with h|h
  ·exact .inl ⟨x,h,q⟩
  ·rw[WG.mp h] at q;exact .inr q
 ·rintro(⟨x,hx,q⟩|q)
  ·exact⟨x,aas _ hx,q⟩
  ·exact⟨l,by simp,q⟩
def SF(A:Ad):Sp:=fun vs H Q _=>∃(a:Addr)(ls:List Ln),vs=[.ref a]∧qL A H a ls∧uN ls.length∧(ls.map (·.nm)).Nodup∧qy ls∧
 ∀p H' ad sf,gj H H'→H p=none→(∀n∈ls.map (·.nm),H (ad n)=none)→WO H' p (ls.map (·.nm)) ad sf→(∀n,(sf n).Nodup∧∀m,m∈sf n↔Sa ls m n)→Q (.ref p) H'
theorem vQ(T:Txt mg)(O:Ok K mg A):ij P w K mg base mr 1 A.pY A.pZ ["lines"] (SF A):=by
 refine O.sF.f.qr kB fun jl A0 outer s H vs Q E hr h=>?_
 obtain⟨a,ls,rfl,⟨as,ha,pa⟩,jA,nd,cl,q⟩:=h
 have hlen:=aaj pa
 refine⟨_,(de (kW 1 kB lD)
   (de (il aam rfl (ir (pv 0)) (qY 2 kB) (fR (jn (by exact iG hr) (pv 1) (gC (pv 2) rfl) lD rfl)))
   (de (il aam rfl (ir (pv 0)) (qY 2 kB) (de (qo (ik (i9 (sZ (gC (pv 2) rfl))) (fR (jn (by exact iG hr) (zz hr (pv 1) (gC (pv 2) rfl)) (gC (pv 2) rfl) j4 rfl)) g_))
   (fR (ik (i9 (sZ (gC (pv 2) rfl))) (fR (jn (by exact iG hr) (zz hr (pv 1) (gC (pv 2) rfl)) (gC (pv 2) rfl) j4 rfl)) g_))))
   (fR (hE (pv 1)))))),?_⟩
 refine NJ ?_;intro _ _ _
 intro p hp
 have s1:gj H (upd H p (.dT [])):=(gj.refl H).new hp
 dsimp only [mB];refine JM ?_;intro _
 let Jv:=fun(i:Nat) (σ:St) (H2:Hp)=>∃(v:Option V)(ds:List Addr),σ=[rr a,rr p,v]∧gj H H2∧H2 p=some (.dT (zk ((ls.take i).map (·.nm)) ds))∧ds.length=((ls.take i).map (·.nm)).length∧ds.Nodup∧(∀d∈ds,H d=none∧d≠p∧H2 d=some (.dT []))
 refine⟨_,rfl,a,rfl,⟨_,gH.of (s1 a _ ha)⟩,iM (K:=K) (a:=a) (xs:=as.map V.ref) Jv
  ⟨none,[],rfl,s1,b_,rfl,abp,fun d hd=>by cases hd⟩ (by rintro _ _ _ _ ⟨_,_,_,s3,_⟩;exact gH.of (s3 a _ ha)) ?_ ?_⟩
 ·rintro i v σ H2 hx ⟨v0,ds,rfl,s3,h1,h2,h3,h4⟩
  obtain⟨b,hb,rfl⟩:=ke hx
  obtain⟨l,hl,dx,vn,vu,vl,g1,⟨t,rfl,g2⟩,g3,g4⟩:=iz pa hb
  have hi:i<ls.length:=(List.getElem?_eq_some_iff.mp hl).1
  intro d hd
  have s4:gj H (upd H2 d (.dT [])):=s3.new hd
  have XO:d≠p:=fun z=>by rw[z,h1] at hd;cases hd
  have LL:d∉ds:=fun z=>by rw[(h4 d z).2.2] at hd;cases hd
  have Nb:upd H2 d (.dT []) p=some (.dT (zk ((ls.take i).map (·.nm)) ds)):=by rw[e_ XO.symm];exact h1
  have Ay:l.nm∉(ls.take i).map (·.nm):=fun z=>by
   have e2:(ls.map (·.nm)).take i=(ls.take i).map (·.nm):=List.map_take.symm
   rw[←e2] at z
   obtain⟨j,hj,e⟩:=aaC.mp z |>.imp fun j h=>(⟨(List.getElem?_eq_some_iff.mp h).1,h⟩:j<((ls.map (·.nm)).take i).length∧((ls.map (·.nm)).take i)[j]?=some l.nm)
   have IJ:j<i:=by rw[aay] at hj;omega
   rw[aa7,aar IJ] at e
   have e3:(ls.map (·.nm))[i]?=some l.nm:=by rw[Z4,hl];rfl
   have:=(abQ (List.getElem?_eq_some_iff.mp e).1 nd).mp (e.trans e3.symm)
   omega
  refine⟨_,rfl,_,rfl,b,A.hV,dx,_,_,rfl,s4 _ _ g1,O.iP,O.hU,i5,p,_,rfl,mK.t (k:=nk l.nm) Nb (s4 _ _ g2) ?_,?_⟩
  ·have:(zk ((ls.take i).map (·.nm)) ds).length≤ds.length:=by unfold zk;rw[List.length_zipWith];exact Nat.min_le_right _ _
   rw[h2,TU,aay] at this
   exact abk (m:=4000) (by have:uN ls.length:=jA;unfold uN at this;omega) (by decide)
  ·have e:putK (zk ((ls.take i).map (·.nm)) ds) (nk l.nm) (V.ref d)=zk ((ls.take (i+1)).map (·.nm)) (ds++[d]):=by
    rw[take_snoc hl,aat]
    show _=zk (_++[l.nm]) _
    rw[GY _ _ h2.symm]
    refine Eg _ ?_
    exact ET (by rw[CW h2.symm];exact fun z=>Ay (sM.mp z))
   rw[e]
   refine⟨_,ds++[d],rfl,s4.upd hp,b_,?_,?_,?_⟩
   ·rw[take_snoc hl,aat,W4,W4,h2];rfl
   ·rw[aa3]
    exact⟨h3,by simp,fun x hx y hy z=>LL (by rw[WG.mp hy] at z;exact z▸hx)⟩
   ·intro x hx
    rcases Z3.mp hx with hx|hx
    ·obtain⟨k1,k2,k3⟩:=h4 x hx
     refine⟨k1,k2,?_⟩
     rw[e_ k2,e_ (fun z=>by rw[z] at hx;exact LL hx)]
     exact k3
    ·rw[WG.mp hx]
     exact⟨s3.free hd,XO,by rw[e_ XO];exact b_⟩
 ·rintro σ H2 ⟨v0,ds,rfl,s3,h1,h2,h3,h4⟩
  have el:(as.map V.ref).length=ls.length:=by rw[TU];exact hlen
  rw[el,aaq] at h1 h2
  have Vs:=h2.symm
  have vZ:∀n∈ls.map (·.nm),iI (zk (ls.map (·.nm)) ds) (nk n)=some (.ref (tO (ls.map (·.nm)) ds n)):=fun n hn=>Kk Vs hn
  have Nl:∀n∈ls.map (·.nm),∀m∈ls.map (·.nm),tO (ls.map (·.nm)) ds n=tO (ls.map (·.nm)) ds m→n=m:=fun n hn m hm e=>Kl Vs h3 hn hm e
  have yo:∀n∈ls.map (·.nm),H (tO (ls.map (·.nm)) ds n)=none∧tO (ls.map (·.nm)) ds n≠p∧H2 (tO (ls.map (·.nm)) ds n)=some (.dT []):=fun n hn=>h4 _ (CY Vs hn)
  generalize tO (ls.map (·.nm)) ds=ad at vZ Nl yo
  have Oa:=CW Vs
  generalize zk (ls.map (·.nm)) ds=kvs at h1 vZ Oa
  dsimp only [mB];refine JM ?_;intro _
  let Jv:=fun(i:Nat) (σ:St) (H3:Hp)=>∃(v:Option V)(sf:Nm→List Nm),σ=[rr a,rr p,v]∧gj H H3∧H3 p=some (.dT kvs)∧(∀n∈ls.map (·.nm),Ba H3 (ad n) (sf n))∧∀n,(sf n).Nodup∧(sf n).length≤2*i∧∀m,m∈sf n↔Sa (ls.take i) m n
  refine⟨_,rfl,a,rfl,⟨_,gH.of (s3 a _ ha)⟩,iM (K:=K) (a:=a) (xs:=as.map V.ref) Jv
   ⟨v0,fun _=>[],rfl,s3,h1,fun n hn=>⟨[],(yo n hn).2.2,rfl⟩,fun n=>⟨abp,aaz _,fun m=>⟨(fun z=>by cases z),fun⟨x,hx,_⟩=>by rw[abE] at hx;cases hx⟩⟩⟩ (by rintro _ _ _ _ ⟨_,_,_,s3,_⟩;exact gH.of (s3 a _ ha)) ?_ ?_⟩
  ·rintro i v σ H3 hx ⟨v1,sf,rfl,s4,k1,k2,k3⟩
   obtain⟨b,hb,rfl⟩:=ke hx
   obtain⟨l,hl,dx,vn,vu,vl,g1,⟨t,rfl,g2⟩,g3,g4⟩:=iz pa hb
   have hi:i<ls.length:=(List.getElem?_eq_some_iff.mp hl).1
   have hi4:i<4000:=aaD hi jA
   have uO:l.nm∈ls.map (·.nm):=XE (WI hl)
   have step:∀{H3:Hp} {sf:Nm→List Nm} {n m:Nm},gj H H3→H3 p=some (.dT kvs)→(∀n∈ls.map (·.nm),Ba H3 (ad n) (sf n))→n∈ls.map (·.nm)→∀dk,H3 (ad n)=some (.dT dk)→dk.map (·.1)=(sf n).map nk→
     gj H (upd H3 (ad n) (.dT (putK dk (nk m) (V.bl true))))∧upd H3 (ad n) (.dT (putK dk (nk m) (V.bl true))) p=some (.dT kvs)∧(∀x∈ls.map (·.nm),Ba (upd H3 (ad n) (.dT (putK dk (nk m) (V.bl true)))) (ad x) (if x=n then oA (sf n) m else sf x)):=fun{H3 sf n m} s4 k1 k2 hn dk hdk XQ=>by
    refine⟨s4.upd (yo n hn).1,by rw[e_ (yo n hn).2.1.symm];exact k1,fun x hx=>?_⟩
    by_cases e:x=n
    ·subst e
     rw[aar rfl]
     exact⟨_,b_,vP XQ m _⟩
    ·rw[aap e]
     obtain⟨QA,e1,e2⟩:=k2 x hx
     exact⟨QA,by rw[e_ (fun z=>e (Nl x hx n hn z))];exact e1,e2⟩
   have Vt:∀m n,Sa (ls.take (i+1)) m n↔Sa (ls.take i) m n∨(l.nm=n∧l.up=some m)∨(l.nm=m∧l.lo=some n):=fun m n=>by rw[take_snoc hl];exact ME
   refine⟨fun σ H4=>∃sf:Nm→List Nm,σ=[rr a,rr p,rr b]∧gj H H4∧H4 p=some (.dT kvs)∧(∀n∈ls.map (·.nm),Ba H4 (ad n) (sf n))∧∀n,(sf n).Nodup∧(sf n).length≤2*i+1∧∀m,m∈sf n↔Sa (ls.take i) m n∨(l.nm=n∧l.up=some m),?_,?_⟩
   ·refine⟨_,rfl,b,A.hV,dx,_,_,rfl,s4 _ _ g1,O.iP,O.iD,FY,_,rfl,?_⟩
    cases hu:l.up with
    | none=>
     rw[hu] at g3
     rw[show vu=V.jm from g3]
     exact⟨sf,rfl,s4,k1,k2,fun n=>⟨(k3 n).1,by have:=(k3 n).2.1;omega,fun m=>by rw[(k3 n).2.2 m];exact⟨.inl,fun z=>z.elim id fun z=>by cases z.2⟩⟩⟩
    | some u=>
     rw[hu] at g3
     obtain⟨tu,rfl,gu⟩:=(show lA H vu u from g3)
     obtain⟨dk,e1,e2⟩:=k2 l.nm uO
     have hdl:dk.length=(sf l.nm).length:=by have:=aa6 List.length e2;rwa [TU,TU] at this
     refine⟨_,rfl,_,rfl,b,A.hV,dx,_,_,rfl,s4 _ _ g1,O.iP,O.hU,i5,p,.ref (ad l.nm),rfl,?_,_,rfl,b,A.hV,dx,_,_,rfl,s4 _ _ g1,O.iP,O.iD,FY,ad l.nm,_,rfl,mK.t (k:=nk u) e1 (s4 _ _ gu) (abk (m:=8000) (by have:=(k3 l.nm).2.1;omega) (by decide)),?_⟩
     ·have:=iZ.t (k:=nk l.nm) k1 (s4 _ _ g2)
      rw[vZ _ uO] at this
      exact this
     ·obtain⟨z1,z2,z3⟩:=step (m:=u) s4 k1 k2 uO dk e1 e2
      refine⟨fun x=>if x=l.nm then oA (sf l.nm) u else sf x,rfl,z1,z2,z3,fun n=>?_⟩
      obtain⟨y1,y2,y3⟩:=k3 n
      show(if n=l.nm then oA (sf l.nm) u else sf n).Nodup∧(if n=l.nm then oA (sf l.nm) u else sf n).length≤_∧∀m,m∈(if n=l.nm then oA (sf l.nm) u else sf n)↔_
      by_cases e:n=l.nm
      ·subst e
       rw[aar rfl]
       have:=EU (l:=sf l.nm) (m:=u)
       refine⟨yS y1,by omega,fun m=>?_⟩
       rw[sN,y3 m]
       exact⟨fun z=>z.elim .inl fun z=>.inr ⟨rfl,by rw[z]⟩,fun z=>z.elim .inl fun z=>.inr (aaA z.2).symm⟩
      ·rw[aap e]
       refine⟨y1,by omega,fun m=>?_⟩
       rw[y3 m]
       exact⟨.inl,fun z=>z.elim id fun z=>absurd z.1.symm e⟩
   ·rintro σ H4 ⟨Hi,rfl,s5,k4,k5,k6⟩
    have fin:∀(QB:Nm→List Nm)(n:Nm),((QB n).Nodup∧(QB n).length≤2*i+2∧∀m,m∈QB n↔(Sa (ls.take i) m n∨(l.nm=n∧l.up=some m))∨(l.nm=m∧l.lo=some n))→(QB n).Nodup∧(QB n).length≤2*(i+1)∧∀m,m∈QB n↔Sa (ls.take (i+1)) m n:=fun QB n ⟨z1,z2,z3⟩=>
     ⟨z1,by omega,fun m=>by rw[z3 m,Vt m n,or_assoc]⟩
    refine⟨_,rfl,b,A.hV,dx,_,_,rfl,s5 _ _ g1,O.iP,O.iE,FZ,_,rfl,?_⟩
    cases hu:l.lo with
    | none=>
     rw[hu] at g4
     rw[show vl=V.jm from g4]
     refine⟨_,Hi,rfl,s5,k4,k5,fun n=>fin Hi n ⟨(k6 n).1,by have:=(k6 n).2.1;omega,fun m=>?_⟩⟩
     rw[(k6 n).2.2 m,hu]
     exact⟨.inl,fun z=>z.elim id fun z=>by cases z.2⟩
    | some d=>
     have LL:d∈ls.map (·.nm):=(cl l (WI hl)).2 d hu
     rw[hu] at g4
     obtain⟨td,rfl,gd⟩:=(show lA H vl d from g4)
     obtain⟨dk,e1,e2⟩:=k5 d LL
     have hdl:dk.length=(Hi d).length:=by have:=aa6 List.length e2;rwa [TU,TU] at this
     refine⟨_,rfl,_,rfl,b,A.hV,dx,_,_,rfl,s5 _ _ g1,O.iP,O.iE,FZ,p,.ref (ad d),rfl,?_,_,rfl,b,A.hV,dx,_,_,rfl,s5 _ _ g1,O.iP,O.hU,i5,ad d,_,rfl,mK.t (k:=nk l.nm) e1 (s5 _ _ g2) (abk (m:=8001) (by have:=(k6 d).2.1;omega) (by decide)),?_⟩
     ·have:=iZ.t (k:=nk d) k4 (s5 _ _ gd)
      rw[vZ _ LL] at this
      exact this
     ·obtain⟨z1,z2,z3⟩:=step (m:=l.nm) s5 k4 k5 LL dk e1 e2
      refine⟨_,fun x=>if x=d then oA (Hi d) l.nm else Hi x,rfl,z1,z2,z3,fun n=>fin (fun x=>if x=d then oA (Hi d) l.nm else Hi x) n ?_⟩
      obtain⟨y1,y2,y3⟩:=k6 n
      show(if n=d then oA (Hi d) l.nm else Hi n).Nodup∧(if n=d then oA (Hi d) l.nm else Hi n).length≤_∧∀m,m∈(if n=d then oA (Hi d) l.nm else Hi n)↔_
      by_cases e:n=d
      ·subst e
       rw[aar rfl]
       have:=EU (l:=Hi n) (m:=l.nm)
       refine⟨yS y1,by omega,fun m=>?_⟩
       rw[sN,y3 m,hu]
       exact⟨fun z=>z.elim .inl fun z=>.inr ⟨z.symm,rfl⟩,fun z=>z.elim .inl fun z=>.inr z.1.symm⟩
      ·rw[aap e]
       refine⟨y1,by omega,fun m=>?_⟩
       rw[y3 m,hu]
       exact⟨.inl,fun z=>z.elim id fun z=>absurd (aaA z.2).symm e⟩
  ·rintro σ H3 ⟨v1,sf,rfl,s4,k1,k2,k3⟩
   rw[TU,hlen] at k3
   exact⟨_,rfl,q p _ ad sf s4 hp (fun n hn=>(yo n hn).1) ⟨⟨kvs,k1,vZ,Oa⟩,Nl,k2⟩ fun n=>⟨(k3 n).1,fun m=>by rw[(k3 n).2.2 m,aaq]⟩⟩
theorem lA.upd{H:Hp}{v:V}{n:Nm}{x:Addr}{o o':HO}(h:lA H v n)(hx:H x=some o')(ht:∀xs,o'≠.tup xs):lA (L2.upd H x o) v n:=by
 obtain⟨t,e,XF⟩:=h
 exact⟨t,e,by rw[e_ (i7 XF hx (fun z=>ht _ z.symm))];exact XF⟩
theorem sO{dk:List (List Key×V)}{l:List Nm}(h:dk.map (·.1)=l.map nk):dk.length=l.length:=by
 have:=aa6 List.length h
 rwa [TU,TU] at this
theorem EV{dk:List (List Key×V)}{l:List Nm}(h:dk.map (·.1)=l.map nk){i:Nat}{k:List Key}{v:V}(hi:dk[i]?=some (k,v)):∃n,l[i]?=some n∧k=nk n:=by
 have h1:(dk.map (·.1))[i]?=some k:=by rw[Z4,hi];rfl
 rw[h,Z4] at h1
 obtain⟨n,e,e2⟩:=Option.map_eq_some_iff.mp h1
 exact⟨n,e,e2.symm⟩
theorem keys_has{dk:List (List Key×V)}{l:List Nm}(h:dk.map (·.1)=l.map nk)(n:Nm):(iI dk (nk n)).isSome=decide (n∈l):=by
 by_cases m:n∈l
 ·rw[WM m];exact tE.mpr (by rw[h];exact sM.mpr m)
 ·rw[Z6 m,abP];exact fun z=>m (sM.mp (by rw[←h];exact tE.mp z))
theorem EW:∀(more:List (List Key×V))(dk:List (List Key×V))(l r:List Nm),dk.map (·.1)=l.map nk→more.map (·.1)=r.map nk→l.Nodup→∃l':List Nm,(putAll dk more).map (·.1)=l'.map nk∧l'.Nodup∧∀m,m∈l'↔m∈l∨m∈r
 | [],dk,l,r,h1,h2,nd=>by
  have:r=[]:=by cases r with|nil=>rfl|cons _ _=>cases h2
  subst this
  exact⟨l,h1,nd,fun m=>by simp⟩
 | p::t,dk,l,r,h1,h2,nd=>by
  cases r with
  | nil=>cases h2
  | cons x r=>
   rw[aax,aax] at h2
   injection h2 with e1 e2
   rw[rP,e1]
   obtain⟨l',z1,z2,z3⟩:=EW t (putK dk (nk x) p.2) (oA l x) r (vP h1 x _) e2 (yS nd)
   refine⟨l',z1,z2,fun m=>?_⟩
   rw[z3 m,sN,Z8,or_assoc]
def PJ:Sp:=fun vs H Q _=>∃(d a:Addr)(xs:List Nm)(ka:List (List Key×V))(af:Nm→List Nm),vs=[.ref d,.ref a]∧Ba H d xs∧d≠a∧H a=some (.dT ka)∧(∀x∈xs,∃b,iI ka (nk x)=some (.ref b)∧b≠d∧Ba H b (af x))∧xs.length≤4000∧(∀x∈xs,(af x).length≤4000)∧
 ∀p H' rs,gj H H'→H p=none→Ba H' p rs→rs.Nodup→(∀m,m∈rs↔∃x∈xs,m=x∨m∈af x)→Q (.ref p) H'
theorem HW(T:Txt mg)(O:Ok K mg A):ij P w K mg base mr 1 A.EK A.EL ["names","ahead"] PJ:=by
 refine O.joined.f.qr wK fun jl A0 outer s H vs Q E hr h=>?_
 obtain⟨d,a,xs,ka,af,rfl,⟨kd,hd,hk⟩,hda,ha,hb,hx4,haf,q⟩:=h
 refine⟨_,(de (kW 2 wK lD)
   (de (yN (il aam rfl (zy (pv 0)) (qY 3 wK) (de (jn (by exact iG hr) (pv 2) (pv 3) j4 rfl)
   (fR (hX (JY (by exact iG hr) (pv 2) (zz hr (pv 1) (pv 3)) ⟨rfl,rfl,rfl,rfl⟩))))))
   (fR (hE (pv 2))))),?_⟩
 refine DO ?_;intro _ _
 intro p hp
 have T5:p≠d:=(gh hd hp).symm
 have T6:p≠a:=(gh ha hp).symm
 refine⟨_,rfl,d,kd,rfl,by rw[e_ T5.symm];exact hd,fun o uz=>?_⟩
 have IU:=sO hk
 let Jv:=fun(i:Nat) (σ:St) (H2:Hp)=>∃(v:Option V)(kf:List (List Key×V))(rs:List Nm),σ=[rr d,rr a,rr p,v]∧(∀b o,H b=some o→b≠d→H2 b=some o)∧H2 d=some (.nq o (.dT kd))∧H2 p=some (.dT kf)∧kf.map (·.1)=rs.map nk∧rs.Nodup∧kf.length≤i*4001∧∀m,m∈rs↔∃x∈xs.take i,m=x∨m∈af x
 refine BJ (d:=d) (o:=o) (kvs:=kd) Jv
  ⟨none,[],[],rfl,fun b o e nb=>by rw[e_ nb,e_ (gh e hp)];exact e,b_,by rw[e_ T5];exact b_,rfl,abp,by simp,fun m=>by simp⟩ (by rintro _ _ _ ⟨_,_,_,_,_,e,_⟩;exact e) ?_ ?_
 ·rintro i k v t σ H2 hi ht ⟨v0,kf,rs,rfl,h1,h2,h3,h4,h5,h6,h7⟩
  obtain⟨x,hx,rfl⟩:=EV hk hi
  have Ob:x∈xs:=WI hx
  have Bq:i<xs.length:=(List.getElem?_eq_some_iff.mp hx).1
  obtain⟨b,e1,e2,kb,e3,e4⟩:=hb x Ob
  have Rq:b≠p:=gh e3 hp
  have IS:=sO e4
  have hb4:=haf x Ob
  have LM:t≠p:=fun z=>by rw[z,h3] at ht;cases ht
  have hl:=jf kf (nk x) (V.bl true)
  have sz:sizeLine=16777216:=aaw
  have hmul:i*4001≤4000*4001:=Nat.mul_le_mul_right _ (by omega)
  refine⟨_,rfl,_,rfl,p,_,rfl,mK.t (k:=nk x) h3 ht (by omega),?_⟩
  have rB:putK kf (nk x) (V.bl true)≠[]:=fun z=>by
   have:=vP h4 x (V.bl true)
   rw[z] at this
   have hm:x∈oA rs x:=sN.mpr (.inr rfl)
   cases hq:oA rs x with
   | nil=>rw[hq] at hm;cases hm
   | cons _ _=>rw[hq] at this;cases this
  refine⟨_,rfl,p,rfl,.inr ⟨_,.inl b_⟩,_,rfl,_,rfl,a,.ref b,rfl,?_,b,_,kb,rfl,b_,.inl (by rw[e_ Rq];exact h1 _ _ e3 e2),Rq.symm,rB,by omega,?_⟩
  ·have:=iZ.t (H:=L2.upd H2 p (.dT (putK kf (nk x) (V.bl true)))) (k:=nk x) (by rw[e_ T6.symm];exact h1 a _ ha hda.symm) (b:=t) (by rw[e_ LM];exact ht)
   rw[e1] at this
   exact this
  ·obtain⟨l',z1,z2,z3⟩:=EW kb _ (oA rs x) (af x) (vP h4 x (V.bl true)) e4 (yS h5)
   refine⟨_,_,l',rfl,fun b o e nb=>?_,?_,b_,z1,z2,?_,fun m=>?_⟩
   ·rw[e_ (gh e hp),e_ (gh e hp)];exact h1 b o e nb
   ·rw[e_ T5.symm,e_ T5.symm];exact h2
   ·have:=qp kb (putK kf (nk x) (V.bl true))
    have:(i+1)*4001=i*4001+4001:=Nat.succ_mul _ _
    omega
   ·rw[z3 m,sN,h7 m,take_snoc hx]
    constructor
    ·rintro((⟨y,hy,z⟩|z)|z)
     ·exact⟨y,aas _ hy,z⟩
     ·exact⟨x,by simp,.inl z⟩
     ·exact⟨x,by simp,.inr z⟩
    ·rintro⟨y,hy,z⟩
     rcases Z3.mp hy with hy|hy
     ·exact .inl (.inl ⟨y,hy,z⟩)
     ·rw[WG.mp hy] at z
      exact z.elim (fun z=>.inl (.inr z)) .inr
 ·rintro σ H2 ⟨v0,kf,rs,rfl,h1,h2,h3,h4,h5,h6,h7⟩
  rw[IU,aaq] at h7
  refine⟨d,o,_,h2,uz,_,rfl,q p _ rs (fun b u e=>?_) hp ⟨kf,by rw[e_ T5];exact h3,h4⟩ h5 h7⟩
  by_cases XR:b=d
  ·subst XR;rw[b_];rw[hd] at e;exact e
  ·rw[e_ XR];exact h1 b u e XR
structure ph(ls:List Ln)(H1 H:Hp)(h:Addr)(S:List Nm)(af:Nm→List Nm):Prop where
 ex:∃kvs,H h=some (.dT kvs)∧kvs.map (·.1)=S.map nk∧∀n∈S,∃b,iI kvs (nk n)=some (.ref b)∧b≠h∧H1 b=none∧Ba H b (af n)
 nd:S.Nodup
 good:∀n∈S,n∈ls.map (·.nm)∧(af n).Nodup∧∀m,m∈af n↔Ah ls m n
theorem ph.same{ls:List Ln}{H1 H H':Hp}{h:Addr}{S:List Nm}{af:Nm→List Nm}(x:ph ls H1 H h S af)(s:gj H H'):ph ls H1 H' h S af:=by
 obtain⟨⟨kvs,e1,e2,e3⟩,nd,g⟩:=x
 refine⟨⟨kvs,s _ _ e1,e2,fun n hn=>?_⟩,nd,g⟩
 obtain⟨b,z1,z2,z3,dk,z4,z5⟩:=e3 n hn
 exact⟨b,z1,z2,z3,dk,s _ _ z4,z5⟩
theorem ph.lst{ls:List Ln}{H1 H:Hp}{h c:Addr}{S:List Nm}{af:Nm→List Nm}{xs:List V}{o:HO}(x:ph ls H1 H h S af)(hc:H c=some (.lst xs)):ph ls H1 (L2.upd H c o) h S af:=by
 obtain⟨⟨kvs,e1,e2,e3⟩,nd,g⟩:=x
 refine⟨⟨kvs,by rw[e_ (i7 e1 hc (fun z=>by cases z))];exact e1,e2,fun n hn=>?_⟩,nd,g⟩
 obtain⟨b,z1,z2,z3,dk,z4,z5⟩:=e3 n hn
 exact⟨b,z1,z2,z3,dk,by rw[e_ (i7 z4 hc (fun z=>by cases z))];exact z4,z5⟩
theorem GZ{sf:Nm→List Nm}{B n:Nat}{st S:List Nm}(r:Run sf B n st S):st.length≤B:=by
 cases r with
 | nil=>exact aaz _
 | skip _ h _=>exact h
 | fin _ _ h _=>exact h
 | push _ _ h _=>exact h
theorem EY{α β:Type}{F:α→β→Prop}{vs:List α}{xs:List β}{x:β}(p:Paired F vs (xs++[x])):∃Vu v,vs=Vu++[v]∧Paired F Vu xs∧F v x:=by
 induction xs generalizing vs with
 | nil=>
  cases p with
  | cons f t=>cases t;exact⟨[],_,rfl,.nil,f⟩
 | cons y r ih=>
  cases p with
  | cons f t=>
   obtain⟨Vu,v,rfl,h1,h2⟩:=ih t
   exact⟨_::Vu,v,rfl,.cons f h1,h2⟩
def CZ(H:Hp)(p:Addr)(ls:List Ln):Prop:=∃kvs,H p=some (.dT kvs)∧∀n∈ls.map (·.nm),∃b dk,iI kvs (nk n)=some (.ref b)∧H b=some (.dT dk)∧∀m,(iI dk (nk m)).isSome=true↔Ah ls m n
theorem CZ.same{H H':Hp}{p:Addr}{ls:List Ln}(x:CZ H p ls)(s:gj H H'):CZ H' p ls:=by
 obtain⟨kvs,e1,e2⟩:=x
 refine⟨kvs,s _ _ e1,fun n hn=>?_⟩
 obtain⟨b,dk,z1,z2,z3⟩:=e2 n hn
 exact⟨b,dk,z1,s _ _ z2,z3⟩
def SG(A:Ad):Sp:=fun vs H Q _=>∃(a:Addr)(ls:List Ln),vs=[.ref a]∧qL A H a ls∧uN ls.length∧(ls.map (·.nm)).Nodup∧qy ls∧J6 ls∧∀p H',gj H H'→H p=none→CZ H' p ls→Q (.ref p) H'
theorem C0(T:Txt mg)(O:Ok K mg A):ij P w K mg base mr 2 A.xK A.xM ["lines"] (SG A):=by
 have xg:=@vQ P w K mg base A T O
 have Ld:=@HW P w K mg base A T O
 refine O.BN.f.qr jI fun jl A0 outer s H vs Q E hr h=>?_
 obtain⟨a,ls,rfl,la,jA,nd,cl,tp,q⟩:=h
 obtain⟨as,ha,pa⟩:=id la
 have hlen:=aaj pa
 have v_:ls.length≤4000:=jA
 refine⟨_,(de (kW 1 jI (o_ O.sF xg hr (a_ (pv 0) d_)))
   (de (lq (i:=2) jI.nd rfl (Or.inr rfl) lD)
   (de (il aam rfl (ir (pv 0)) (qY 3 jI) (de (kW 4 jI (iO (a_ (gC (pv 3) rfl) d_)))
   (fR (D6 aam (rL (pv 4) (fun _=>rfl)) (de (kW 5 jI (OW aaI PySem.F.slot_list_pop PySem.F.type_list_pop OY (pv 4)))
   (de (ik (i9 (nR (by exact iG hr) (pv 5) (pv 2))) (fR (D1)) g_)
   (de (yN (uk (j:=6) xB (f_ oI).names [7] jI.nd rfl rfl rfl (zy (zz hr (pv 1) (pv 5))) rfl (by decide+kernel) (fun _ _ _ _=>(iw (i:=7) jI.nd rfl (Or.inl rfl))) (fun _ _ _ _=>⟨_,mL (i9 (jX (by exact iG hr) (pv 7) (pv 2))),by(try simp only [ku]);rfl⟩) (fun _ _ _ _=>AX (pv 7))))
   (fR (ik (rL (pv 6) (fun _=>rfl)) (de (hX (nP aaI aaM aaN jC (pv 4) (a_ (pv 5) d_)))
   (fR (hX (nP aaI PySem.F.slot_list_extend PySem.F.type_list_extend BA (pv 4) (a_ (pv 6) d_))))) (fR (jn (by exact iG hr) (pv 2) (pv 5) (o_ O.joined Ld hr (a_ (zz hr (pv 1) (pv 5)) (a_ (pv 2) d_))) rfl)))))))))))
   (fR (hE (pv 2)))))),?_⟩
 refine NJ ?_;intro _ _ _
 refine⟨_,rfl,a,ls,rfl,la,jA,nd,cl,fun st H1 ad sf s1 hst0 had0 rE QC=>?_⟩
 obtain⟨⟨kst,Nn,Np,hst3⟩,Nl,XQ⟩:=rE
 have hN:(1+ls.length*ls.length)≤16000001:=by have:=Nat.mul_le_mul v_ v_;omega
 have sz:sizeLine=16777216:=aaw
 have T7:∀n,(sf n).length≤4000:=fun n=>by
  have:=len_sub (ys:=ls.map (·.nm)) (QC n).1 fun y hy=>(cl.sa (((QC n).2 y).mp hy)).1
  rw[TU] at this;omega
 intro h hh
 have s2:gj H1 (L2.upd H1 h (.dT [])):=(gj.refl H1).new hh
 dsimp only [mB];refine JM ?_;intro _
 let Jv:=fun(i:Nat) (σ:St) (H2:Hp)=>∃(v3 v4 v5 v6:Option V)(S:List Nm)(af:Nm→List Nm),σ=[rr a,rr st,rr h,v3,v4,v5,v6,none]∧gj H1 H2∧ph ls H1 H2 h S af∧∀l∈ls.take i,l.nm∈S
 refine⟨_,rfl,a,rfl,⟨_,gH.of (s2 _ _ (s1 _ _ ha))⟩,iM (K:=K) (a:=a) (xs:=as.map V.ref) Jv
  ⟨none,none,none,none,[],fun _=>[],rfl,s2,⟨⟨[],b_,rfl,fun n hn=>by cases hn⟩,abp,fun n hn=>by cases hn⟩,fun l hl=>by rw[abE] at hl;cases hl⟩ (by rintro _ _ _ _ ⟨_,_,_,_,_,_,_,s3,_⟩;exact gH.of (s3 _ _ (s1 _ _ ha))) ?_ ?_⟩
 ·rintro i v σ H2 hx ⟨v3,v4,v5,v6,S0,af0,rfl,s3,D0,hS0⟩
  obtain⟨b,hb,rfl⟩:=ke hx
  obtain⟨l,hl,dx,vn,vu,vl,g1,⟨t0,rfl,g2⟩,g3,g4⟩:=iz pa hb
  have uO:l.nm∈ls.map (·.nm):=XE (WI hl)
  refine⟨_,rfl,b,A.hV,dx,_,_,rfl,s3 _ _ (s1 _ _ g1),O.iP,O.hU,i5,L2.jA,fun c hc=>?_⟩
  have XS:H1 c=none:=s3.free hc
  have s4:gj H1 (L2.upd H2 c (.lst [.ref t0])):=s3.new hc
  obtain⟨n0,r0⟩:=J7 cl tp QC l.nm S0
  refine⟨fun m σ H3=>∃(v5 v6:Option V)(sk S:List Nm)(af:Nm→List Nm)(cv:List V),σ=[rr a,rr st,rr h,rr b,rr c,v5,v6,none]∧Run sf (1+ls.length*ls.length) m sk S∧gj H1 H3∧H3 c=some (.lst cv)∧Paired (lA H3) cv sk.reverse∧ph ls H1 H3 h S af∧(∀y∈sk,y∈ls.map (·.nm))∧(l.nm∈sk∨l.nm∈S)∧(∀y∈S0,y∈S),
   ⟨n0,v5,v6,[l.nm],S0,af0,[.ref t0],rfl,r0,s4,b_,.cons ⟨t0,rfl,s4 _ _ (s1 _ _ g2)⟩ .nil,D0.same ((gj.refl H2).new hc),fun y hy=>by rw[WG.mp hy];exact uO,.inl (by simp),fun _ z=>z⟩,?_⟩
  rintro m σ H3 ⟨v5,v6,sk,S,af,cv,rfl,run,s5,QD,XT,D,XU,K8,hS⟩
  cases sk with
  | nil=>
   have:cv=[]:=by cases XT;rfl
   subst this
   refine⟨_,rfl,false,.inl ⟨_,gH.of QD,rfl⟩,i_ ?_⟩
   refine⟨_,_,_,_,S,af,rfl,s5,D,fun y hy=>?_⟩
   rw[take_snoc hl] at hy
   rcases Z3.mp hy with hy|hy
   ·exact hS _ (hS0 y hy)
   ·rw[WG.mp hy]
    exact K8.elim (fun z=>by cases z) id
  | cons x sk=>
   rw[abZ] at XT
   obtain⟨IV,vx,rfl,T8,t,rfl,ht⟩:=EY XT
   have IW:x∈ls.map (·.nm):=XU x aal
   have T9:∀y∈sk,y∈ls.map (·.nm):=fun y hy=>XU y (aae _ hy)
   have IT:IV.length=sk.length:=by have:=aaj T8;rwa [abr] at this
   refine⟨_,rfl,true,.inl ⟨_,gH.of QD,by simp⟩,kD ?_⟩
   obtain⟨n,hn,run'⟩:∃n,m=n+1∧(x∈S∧Run sf (1+ls.length*ls.length) n sk S∨x∉S∧Ex sf S x=[]∧Run sf (1+ls.length*ls.length) n sk (S++[x])∨x∉S∧Ex sf S x≠[]∧Run sf (1+ls.length*ls.length) n ((Ex sf S x).reverse++x::sk) S):=by
    cases run with
    | skip z1 _ z2=>exact⟨_,rfl,.inl ⟨z1,z2⟩⟩
    | fin z1 z2 _ z3=>exact⟨_,rfl,.inr (.inl ⟨z1,z2,z3⟩)⟩
    | push z1 z2 _ z3=>exact⟨_,rfl,.inr (.inr ⟨z1,z2,z3⟩)⟩
   have K9:sk.length+1≤16000001:=by have:=GZ run;rw[aac] at this;omega
   subst hn
   refine⟨fun σ H4=>∃(v5 v6:Option V)(sk S:List Nm)(af:Nm→List Nm)(cv:List V),σ=[rr a,rr st,rr h,rr b,rr c,v5,v6,none]∧Run sf (1+ls.length*ls.length) n sk S∧gj H1 H4∧H4 c=some (.lst cv)∧Paired (lA H4) cv sk.reverse∧ph ls H1 H4 h S af∧(∀y∈sk,y∈ls.map (·.nm))∧(l.nm∈sk∨l.nm∈S)∧(∀y∈S0,y∈S),fun σ' H' z=>⟨n,ab2 n,z⟩,?_⟩
   refine⟨_,rfl,.inl ⟨rfl,_,gH.of QD⟩,c,_,.ref t,rfl,rfl,QD,by simp,?_⟩
   rw[List.dropLast_concat]
   have D4:ph ls H1 (L2.upd H3 c (.lst IV)) h S af:=D.lst QD
   have s6:gj H1 (L2.upd H3 c (.lst IV)):=s5.upd XS
   have p4:Paired (lA (L2.upd H3 c (.lst IV))) IV sk.reverse:=Paired.kC T8 fun _ _ z=>z.upd QD (fun _ z=>by cases z)
   have Rr:L2.upd H3 c (.lst IV) t=some (nT x):=by rw[e_ (i7 ht QD (fun z=>by cases z))];exact ht
   have Rt:L2.upd H3 c (.lst IV) c=some (.lst IV):=b_
   generalize L2.upd H3 c (.lst IV)=H4 at D4 s6 p4 Rr Rt ⊢
   obtain⟨⟨kvs,e1,e2,e3⟩,QE,good⟩:=id D4
   refine⟨_,rfl,_,rfl,h,_,rfl,iZ.t (k:=nk x) e1 Rr,_,rfl,?_⟩
   rw[keys_has e2 x]
   rcases run' with⟨Ru,r⟩|Oc
   ·rw[WM Ru]
    refine kD ⟨_,_,sk,S,af,IV,rfl,r,s6,Rt,p4,D4,T9,?_,hS⟩
    exact K8.elim (fun z=>(Z8.mp z).elim (fun z=>.inr (z▸Ru)) .inl) .inr
   ·have Ru:x∉S:=Oc.elim (·.1) (·.1)
    rw[Z6 Ru]
    refine i_ ?_
    obtain⟨dk,XW,hd2⟩:=XQ x IW
    have XX:=s6 _ _ XW
    have T_:ad x≠h:=gh XW hh
    refine⟨_,rfl,_,rfl,st,.ref (ad x),rfl,?_,ad x,dk,rfl,XX,fun o uz=>?_⟩
    ·have:=iZ.t (k:=nk x) (s6 _ _ Nn) Rr
     rw[Np x IW] at this
     exact this
    have XY:∀{y:Addr} {u:HO},y≠ad x→H4 y=some u→L2.upd H4 (ad x) (.nq o (.dT dk)) y=some u:=fun ny e=>by rw[e_ ny];exact e
    refine JU (d:=ad x) (o:=o) (kvs:=dk) (by rw[sO hd2];exact XI (T7 x) (by decide)) (fun i ys σ H5=>∃(v7:Option V),σ=[rr a,rr st,rr h,rr b,rr c,rr t,v6,v7]∧H5=L2.upd H4 (ad x) (.nq o (.dT dk))∧ys.length≤i∧Paired (lA (L2.upd H4 (ad x) (.nq o (.dT dk)))) ys (((sf x).take i).filter fun y=>y∉S))
     ⟨none,rfl,rfl,WL _,.nil⟩ (by rintro _ _ _ _ ⟨_,_,e,e4,_⟩;subst e;exact⟨b_,e4⟩) ?_ ?_
    ·rintro i k v tb ys σ H5 hi XZ ⟨v7,rfl,rfl,e4,e5⟩
     obtain⟨y,hy,rfl⟩:=EV hd2 hi
     refine⟨_,rfl,_,rfl,h,_,rfl,iZ.t (k:=nk y) (XY T_.symm e1) XZ,_,rfl,?_⟩
     rw[keys_has e2 y,take_snoc hy,aaB]
     by_cases hm:y∈S
     ·rw[WM hm]
      refine i_ ⟨_,rfl,rfl,by omega,?_⟩
      rw[aad (by simpa using hm),aaP,aaK]
      exact e5
     ·rw[Z6 hm]
      refine kD ⟨_,rfl,_,rfl,rfl,NM,?_⟩
      rw[aaa (by simpa using hm),aaP]
      exact iA e5 ⟨tb,rfl,XZ⟩
    ·rintro ys σ H5 ⟨v7,rfl,rfl,e4,e5⟩ p hp
     rw[sO hd2,aaq] at e5
     have T6:p≠ad x:=fun z=>by rw[z,b_] at hp;cases hp
     have Ua:H4 p=none:=by rw[e_ T6] at hp;exact hp
     refine⟨ad x,o,_,by rw[e_ T6.symm];exact b_,uz,?_⟩
     rw[Cs XX T6]
     have pm:Paired (lA H4) ys (Ex sf S x):=Paired.kC e5 fun v y ⟨tb,e,z⟩=>⟨tb,e,by
      have:tb≠ad x:=fun w=>by rw[w,b_] at z;cases z
      rwa [e_ this] at z⟩
     have s7:gj H4 (L2.upd H4 p (.lst ys)):=(gj.refl H4).new Ua
     have Ub:ys.length=(Ex sf S x).length:=aaj pm
     refine⟨_,rfl,!ys.isEmpty,.inl ⟨_,gH.of b_,rfl⟩,?_⟩
     rcases Oc with⟨_,Vv,r⟩|⟨_,Vv,r⟩
     ·
      have:ys=[]:=aaG.mp (by rw[Ub,Vv];rfl)
      subst this
      refine i_ ?_
      have yG:=Cy.mp Vv
      refine⟨_,rfl,_,rfl,st,.ref (ad x),rfl,?_,_,rfl,ad x,h,sf x,kvs,af,rfl,⟨dk,s7 _ _ XX,hd2⟩,T_,s7 _ _ e1,fun y hy=>?_,T7 x,fun y hy=>?_,fun p2 H6 rs s8 AZ X0 nd2 hm2=>?_⟩
      ·have:=iZ.t (k:=nk x) (s7 _ _ (s6 _ _ Nn)) (s7 _ _ Rr)
       rw[Np x IW] at this
       exact this
      ·obtain⟨bb,z1,z2,z3,QA,z4,z5⟩:=e3 y (yG y hy)
       exact⟨bb,z1,(gh XW z3).symm,QA,s7 _ _ z4,z5⟩
      ·obtain⟨z1,z2,z3⟩:=good y (yG y hy)
       have:=len_sub (ys:=ls.map (·.nm)) z2 fun m hm=>(cl.ah ((z3 m).mp hm)).1
       rw[TU] at this;omega
      ·have s9:=s7.trans s8
       have hSl:S.length≤4000:=by
        have:=len_sub (ys:=ls.map (·.nm)) QE fun m hm=>(good m hm).1
        rw[TU] at this;omega
       have e6:H6 h=some (.dT kvs):=s9 _ _ e1
       refine⟨_,rfl,_,rfl,h,_,rfl,mK.t (k:=nk x) e6 (s9 _ _ Rr) (by rw[sO e2];omega),?_⟩
       have Uc:p2≠h:=(gh (s7 _ _ e1) AZ).symm
       have X8:H1 p2=none:=(s6.trans s7).free AZ
       have key:putK kvs (nk x) (V.ref p2)=kvs++[(nk x,V.ref p2)]:=Eg _ (ET (by rw[e2];exact fun z=>Ru (sM.mp z)))
       have hhT:H1 h=none:=hh
       refine⟨_,_,sk,S++[x],fun y=>if y=x then rs else af y,IV,rfl,r,(s6.trans s9).upd hhT,?_,?_,⟨⟨_,b_,?_,fun y hy=>?_⟩,?_,fun y hy=>?_⟩,T9,?_,fun y hy=>aas _ (hS y hy)⟩
       ·rw[e_ (i7 (s9 _ _ Rt) e6 (fun z=>by cases z))];exact s9 _ _ Rt
       ·exact Paired.kC p4 fun _ _ z=>(z.same s9).upd e6 (fun _ z=>by cases z)
       ·rw[key,aat,e2,aat];rfl
       ·show ∃bb,iI (putK kvs (nk x) (V.ref p2)) (nk y)=some (V.ref bb)∧bb≠h∧H1 bb=none∧Ba _ bb (if y=x then rs else af y)
        rw[jW]
        by_cases e:y=x
        ·subst e
         rw[aar rfl,aar rfl]
         obtain⟨QA,w1,w2⟩:=X0
         exact⟨p2,rfl,Uc,X8,QA,by rw[e_ Uc];exact w1,w2⟩
        ·rw[aap (fun z=>e (pf z)),aap e]
         have hyS:y∈S:=(Z3.mp hy).elim id fun z=>absurd (WG.mp z) e
         obtain⟨bb,z1,z2,z3,QA,z4,z5⟩:=e3 y hyS
         exact⟨bb,z1,z2,z3,QA,by rw[e_ z2];exact s9 _ _ z4,z5⟩
       ·rw[aa3]
        exact⟨QE,by simp,fun u hu w hw z=>Ru (by rw[WG.mp hw] at z;have z:u=x:=z;exact z▸hu)⟩
       ·show y∈ls.map (·.nm)∧(if y=x then rs else af y).Nodup∧∀m,m∈(if y=x then rs else af y)↔Ah ls m y
        by_cases e:y=x
        ·subst e
         rw[aar rfl]
         refine⟨IW,nd2,fun m=>?_⟩
         rw[hm2 m,Ah.last]
         constructor
         ·rintro⟨u,hu,z⟩
          have Vt:=((QC y).2 u).mp hu
          rcases z with z|z
          ·exact .inl (z▸Vt)
          ·exact .inr ⟨u,((good u (yG u hu)).2.2 m).mp z,Vt⟩
         ·rintro(z|⟨u,z1,z2⟩)
          ·exact⟨m,((QC y).2 m).mpr z,.inl rfl⟩
          ·have hu:=((QC y).2 u).mpr z2
           exact⟨u,hu,.inr (((good u (yG u hu)).2.2 m).mpr z1)⟩
        ·rw[aap e]
         exact good y ((Z3.mp hy).elim id fun z=>absurd (WG.mp z) e)
       ·exact K8.elim (fun z=>(Z8.mp z).elim (fun z=>.inr (by rw[z];simp)) .inl) fun z=>.inr (aas _ z)
     ·
      have Rv:(!ys.isEmpty)=true:=by
       cases ys with
       | nil=>exact absurd (aaG.mp Ub.symm) Vv
       | cons _ _=>rfl
      refine GR Rv ?_
      have DQ:=GZ r
      rw[W4,abr,aac] at DQ
      have Vw:=s7 _ _ Rt
      refine⟨_,rfl,.inl ⟨rfl,_,gH.of Vw⟩,_,rfl,c,_,_,rfl,rfl,Vw,by omega,?_⟩
      have hpc:p≠c:=(gh Rt Ua).symm
      refine⟨_,rfl,.inl ⟨rfl,_,gH.of b_⟩,_,rfl,c,p,_,_,rfl,rfl,b_,by rw[e_ hpc];exact b_,by rw[W4];show IV.length+1+ys.length≤_;omega,?_⟩
      refine⟨_,_,(Ex sf S x).reverse++x::sk,S,af,_,rfl,r,((s6.trans s7).upd XS).upd XS,b_,?_,((D4.same s7).lst Vw).lst b_,fun y hy=>?_,?_,hS⟩
      ·rw[List.reverse_append,List.reverse_reverse,abZ]
       refine Paired.kC (F:=lA (L2.upd H4 p (.lst ys))) (uC (iA (Paired.kC p4 fun _ _ z=>z.same s7) ⟨t,rfl,s7 _ _ Rr⟩) (Paired.kC pm fun _ _ z=>z.same s7)) fun _ _ z=>?_
       exact(z.upd Vw (fun _ z=>by cases z)).upd b_ (fun _ z=>by cases z)
      ·rcases Z3.mp hy with hy|hy
       ·have hy:=(aao.mp (List.mem_reverse.mp hy)).1
        exact(cl.sa (((QC x).2 y).mp hy)).1
       ·exact XU y hy
      ·exact K8.elim (fun z=>.inl (aaL _ z)) .inr
 ·rintro σ H2 ⟨v3,v4,v5,v6,S,af,rfl,s3,⟨⟨kvs,e1,e2,e3⟩,QE,good⟩,hS⟩
  rw[TU,hlen,aaq] at hS
  refine⟨_,rfl,q h _ (s1.trans s3) (s1.free hh) ⟨kvs,e1,fun n hn=>?_⟩⟩
  obtain⟨l,hl,rfl⟩:=List.mem_map.mp hn
  obtain⟨bb,z1,z2,z3,dk,z4,z5⟩:=e3 _ (hS l hl)
  exact⟨bb,dk,z1,z4,fun m=>by rw[tE,z5,sM];exact(good _ (hS l hl)).2.2 m⟩
theorem Km{κ:Type}[DecidableEq κ]:∀{kvs:List (κ×V)} {i:Nat} {k:κ} {v:V},(kvs.map (·.1)).Nodup→kvs[i]?=some (k,v)→iI kvs k=some v
 | [],_,_,_,_,h=>by simp at h
 | p::r,i,k,v,nd,h=>by
  rw[aax,aa0] at nd
  cases i with
  | zero=>simp at h;subst h;exact jk rfl
  | succ i=>
   have h:r[i]?=some (k,v):=by simpa using h
   have hm:k∈r.map (·.1):=List.mem_map.mpr ⟨_,WI h,rfl⟩
   rw[je (fun z=>nd.1 (by rw[z];exact hm))]
   exact Km nd.2 h
theorem Kn{κ:Type}[DecidableEq κ](kvs:List (κ×V))(k j:κ)(h:j≠k):iI (jV kvs k) j=iI kvs j:=by
 induction kvs with
 | nil=>rfl
 | cons p r ih=>
  by_cases e:p.1=k
  ·rw[wq e,ih,je (fun z=>h (z.symm.trans e))]
  ·rw[wu e]
   by_cases e2:p.1=j
   ·rw[jk e2,jk e2]
   ·rw[je e2,je e2,ih]
theorem HX{kvs:List (List Key×V)}{rem:List Ln}{n:Nm}(h:kvs.map (·.1)=rem.map fun l=>nk l.nm):(jV kvs (nk n)).map (·.1)=(rem.filter fun o=>o.nm≠n).map fun l=>nk l.nm:=by
 induction kvs generalizing rem with
 | nil=>cases rem with|nil=>rfl|cons _ _=>cases h
 | cons p r ih=>
  cases rem with
  | nil=>cases h
  | cons x t=>
   rw[aax,aax] at h
   injection h with h1 h2
   by_cases e:x.nm=n
   ·rw[wq (by rw[h1,e]),aad (by simpa using e)]
    exact ih h2
   ·rw[wu (fun z=>e (pf (h1.symm.trans z))),aaa (by simpa using e),aax,aax,ih h2,h1]
structure Wait(kw:List (List Key×V))(rem:List Ln)(f:Ln→Nat):Prop where
 keys:kw.map (·.1)=rem.map fun l=>nk l.nm
 val:∀o∈rem,iI kw (nk o.nm)=some (.int (f o:Nat))
theorem Wait.len{kw:List (List Key×V)}{rem:List Ln}{f:Ln→Nat}(w:Wait kw rem f):kw.length=rem.length:=by
 have:=aa6 List.length w.keys
 rwa [TU,TU] at this
theorem PL{rem:List Ln}:(rem.map fun l=>nk l.nm)=(rem.map (·.nm)).map nk:=by rw[List.map_map];rfl
theorem SH{xs:List Nm}(h:xs.Nodup):(xs.map nk).Nodup:=by
 induction xs with
 | nil=>exact abp
 | cons x r ih=>
  rw[aa0] at h
  rw[aax,aa0]
  exact⟨fun z=>h.1 (sM.mp z),ih h.2⟩
theorem Wait.nd{kw:List (List Key×V)}{rem:List Ln}{f:Ln→Nat}(w:Wait kw rem f)(h:(rem.map (·.nm)).Nodup):(kw.map (·.1)).Nodup:=by rw[w.keys,PL];exact SH h
theorem Wait.get{kw:List (List Key×V)}{rem:List Ln}{f:Ln→Nat}(w:Wait kw rem f)(h:(rem.map (·.nm)).Nodup){i:Nat}{k:List Key}{v:V}(hi:kw[i]?=some (k,v)):∃o,rem[i]?=some o∧k=nk o.nm∧v=.int (f o:Nat):=by
 have h1:(kw.map (·.1))[i]?=some k:=by rw[Z4,hi];rfl
 rw[w.keys,Z4] at h1
 obtain⟨o,e,e2⟩:=Option.map_eq_some_iff.mp h1
 refine⟨o,e,e2.symm,?_⟩
 have h2:=Km (w.nd h) hi
 rw[←e2,w.val o (WI e)] at h2
 exact(aaA h2).symm
def WQ:Sp:=fun vs H Q _=>∃(d:Addr)(kw:List (List Key×V))(rem:List Ln)(f:Ln→Nat)(l:Ln),vs=[.ref d]∧H d=some (.dT kw)∧Wait kw rem f∧(rem.map (·.nm)).Nodup∧rem.find? (fun o=>f o ==0)=some l∧∀t,H t=some (nT l.nm)→Q (.ref t) H
theorem Bb(T:Txt mg)(O:Ok K mg A):ij P w K mg base mr 1 A.vA A.vB ["waiting"] WQ:=by
 refine O.zY.f.qr tT fun jl A0 outer s H vs Q E hr h=>?_
 obtain⟨d,kw,rem,f,l,rfl,hd,W,nd,hf,q⟩:=h
 refine⟨_,(de (yN (il aam rfl (zy (pv 0)) (qY 1 tT) (fR (ik (ib l4 (zz hr (pv 0) (pv 1)) gc (ip _)) (fR (hE (pv 1))) g_))))
   (fR (hE uf))),?_⟩
 refine LD ?_;intro _
 refine⟨_,rfl,d,kw,rfl,hd,fun o uz=>?_⟩
 let Jv:=fun(i:Nat) (σ:St) (H2:Hp)=>∃(v:Option V),σ=[rr d,v]∧H2=L2.upd H d (.nq o (.dT kw))∧(rem.drop i).find? (fun o=>f o ==0)=some l
 refine BJ (d:=d) (o:=o) (kvs:=kw) Jv ⟨none,rfl,rfl,hf⟩ (by rintro _ _ _ ⟨_,_,e,_⟩;subst e;exact b_) ?_ ?_
 ·rintro i k v t σ H2 hi ht ⟨v0,rfl,rfl,h1⟩
  obtain⟨x,hx,rfl,rfl⟩:=W.get nd hi
  have jQ:i<rem.length:=(List.getElem?_eq_some_iff.mp hx).1
  have hdr:rem.drop i=x::rem.drop (i+1):=by rw[aaT jQ];congr 1;exact(List.getElem?_eq_some_iff.mp hx).2
  rw[hdr] at h1
  refine⟨_,rfl,_,rfl,d,_,rfl,.inr ⟨kw,nk x.nm,t,.inr ⟨o,b_⟩,rfl,ht,(W.val x (WI hx)).symm⟩,rfl,_,rfl,?_⟩
  refine kF (fun h=>?_) (fun h=>?_)
  ·have h:f x=0:=by have:=V.int.inj (aak h);omega
   rw[List.find?_cons_of_pos (by simpa using h)] at h1
   cases h1
   refine⟨_,rfl,d,o,_,b_,uz,?_⟩
   rw[wC hd]
   exact q t (by
    have:t≠d:=fun z=>by rw[z,b_] at ht;cases ht
    rwa [e_ this] at ht)
  ·have h:¬f x=0:=fun z=>h (WM (by rw[z];rfl))
   rw[List.find?_cons_of_neg (by simpa using h)] at h1
   exact⟨_,rfl,rfl,h1⟩
 ·rintro σ H2 ⟨v0,rfl,rfl,h1⟩
  rw[W.len,acj] at h1
  cases h1
end
section
open Classical
noncomputable def oB(lt:Nm→Nm→Prop)(rem:List Ln)(l:Ln):Nat:=(rem.filter fun o=>decide (lt o.nm l.nm)).length
theorem Ko(lt:Nm→Nm→Prop)(rem:List Ln):(fun o=>oB lt rem o ==0)=free lt rem:=by
 funext o
 unfold oB free
 rw[abF,ab5,aaG,List.filter_eq_nil_iff,abx]
 exact⟨fun h x hx=>by simpa using h x hx,fun h x hx=>by simpa using h x hx⟩
theorem Kq{lt:Nm→Nm→Prop}{rem:List Ln}(nd:(rem.map (·.nm)).Nodup){l:Ln}(hl:l∈rem)(o:Ln):oB lt rem o=oB lt (rem.filter fun x=>x.nm≠l.nm) o+if lt l.nm o.nm then 1 else 0:=by
 unfold oB
 induction rem with
 | nil=>cases hl
 | cons x r ih=>
  rw[aax,aa0] at nd
  rcases Z8.mp hl with rfl|hl
  ·have e:r.filter (fun x=>decide (x.nm≠l.nm))=r:=List.filter_eq_self.mpr fun y hy=>WM fun z=>nd.1 (z▸XE hy)
   rw[aad (p:=fun x:Ln=>decide (x.nm≠l.nm)) (by simp),e]
   by_cases h:lt l.nm o.nm
   ·rw[aaa (by simpa using h),aar h,aac]
   ·rw[aad (by simpa using h),aap h,Nat.add_zero]
  ·have hx:x.nm≠l.nm:=fun z=>nd.1 (z▸XE hl)
   rw[aaa (p:=fun x:Ln=>decide (x.nm≠l.nm)) (by simpa using hx)]
   by_cases h:lt x.nm o.nm
   ·rw[aaa (by simpa using h),aaa (by simpa using h),aac,aac,ih nd.2 hl];omega
   ·rw[aad (by simpa using h),aad (by simpa using h),ih nd.2 hl]
end
theorem Kr{lt:Nm→Nm→Prop}{n:Nat}{rem:List Ln}{l:Ln}(h:rem.find? (free lt rem)=some l):qZ lt (n+1) rem=l::qZ lt n (rem.filter fun o=>o.nm≠l.nm):=by
 rw[qZ,h]
section
variable{P:Program}{w:World}{K:Qqy}{mg:Qqx}{base:Heap}{A:Ad}
def SI(A:Ad):Sp:=fun vs H Q _=>∃(a h:Addr)(ls al:List Ln),vs=[.ref a,.ref h]∧qL A H a ls∧CZ H h al∧uN ls.length∧(ls.map (·.nm)).Nodup∧(∀l∈ls,l.nm∈al.map (·.nm))∧J6 al∧
 ∀p H',gj H H'→H p=none→qL A H' p (rowOf (Ah al) ls)→Q (.ref p) H'
theorem HY(T:Txt mg)(O:Ok K mg A):ij P w K mg base mr 2 A.EM A.EN ["lines","ahead"] (SI A):=by
 have Dm:=@Bb P w K mg base A T O
 refine O.Kg.f.qr lu fun jl A0 outer s H vs Q E hr h=>?_
 obtain⟨a,h,ls,al,rfl,⟨as,ha,pa⟩,⟨kh,Ud,hh2⟩,jA,nd,Br,tp,q⟩:=h
 have hlen:=aaj pa
 have v_:ls.length≤4000:=jA
 have sz:sizeLine=16777216:=aaw
 have tpl:∃rk:Nm→Nat,∀m n,Ah al m n→rk m<rk n:=by obtain⟨rk,r⟩:=tp;exact⟨rk,fun m n z=>r.ah z⟩
 refine⟨_,(de (kW 2 lu lD)
   (de (kW 3 lu lD)
   (de (il aam rfl (ir (pv 0)) (iw (i:=4) lu.nd rfl (Or.inr rfl)) (de (jn (by exact iG hr) (pv 2) (gC (pv 4) rfl) (pv 4) rfl)
   (fR (jn (by exact iG hr) (pv 3) (gC (pv 4) rfl) (gs gk (by rfl) T.iW aah (a_ (zm EA (f_ vd).names [7] rfl (ir (pv 0)) rfl (by decide+kernel) (fun _ _ _ _=>(iw (i:=7) lu.nd rfl (Or.inl rfl))) (fun _ _ _ _=>⟨_,mL (i9 (nR (by exact iG hr) (gC (pv 7) rfl) (zz hr (pv 1) (gC (pv 4) rfl)))),by(try simp only [ku]);rfl⟩) (fun _ _ _ _=>AX (pv 7))) d_)) rfl))))
   (de (kW 5 lu (iO d_))
   (de (D6 aam (HJ (pv 3) (fun _=>rfl)) (de (kW 6 lu (o_ O.zY Dm hr (a_ (pv 3) d_)))
   (de (hX (J0 (by exact iG hr) (pv 3) (pv 6) ⟨rfl,rfl,rfl,rfl⟩))
   (de (hX (nP aaI aaM aaN jC (pv 5) (a_ (zz hr (pv 2) (pv 6)) d_)))
   (fR (il aam rfl (ir (pK (yv rfl) (by rfl) T.sj abm (a_ (pv 3) d_))) (qY 7 lu) (fR (ik (i9 (nR (by exact iG hr) (pv 6) (zz hr (pv 1) (pv 7)))) (fR (jn (by exact iG hr) (pv 3) (pv 7) (gr o8 (zz hr (pv 3) (pv 7)) gc) rfl)) g_))))))))
   (fR (hE (pv 5)))))))),?_⟩
 refine So ?_;intro _ _ _ _ _
 intro bn Ue wt Rw
 have s1:gj H (L2.upd (L2.upd H bn (.dT [])) wt (.dT [])):=((gj.refl H).new Ue).new Rw
 have QF:H wt=none:=((gj.refl H).new (o:=.dT []) Ue).free Rw
 have DS:bn≠wt:=fun z=>by rw[z,b_] at Rw;cases Rw
 dsimp only [mB];refine JM ?_;intro _
 let Jv:=fun(i:Nat) (σ:St) (H2:Hp)=>∃(v4:Option V)(kb kw:List (List Key×V)),σ=[rr a,rr h,rr bn,rr wt,v4,none,none,none]∧gj H H2∧H2 bn=some (.dT kb)∧H2 wt=some (.dT kw)∧kb.length≤i∧(∀l∈ls.take i,∃b,iI kb (nk l.nm)=some (.ref b)∧nc A H b l)∧Wait kw (ls.take i) (oB (Ah al) ls)
 refine⟨_,rfl,a,rfl,⟨_,gH.of (s1 _ _ ha)⟩,iM (K:=K) (a:=a) (xs:=as.map V.ref) Jv
  ⟨none,[],[],rfl,s1,by rw[e_ DS];exact b_,b_,WL _,(fun l hl=>by rw[abE] at hl;cases hl),⟨rfl,(fun l hl=>by rw[abE] at hl;cases hl)⟩⟩ (by rintro _ _ _ _ ⟨_,_,_,_,s3,_⟩;exact gH.of (s3 _ _ ha)) ?_ ?_⟩
 ·rintro i v σ H2 hx ⟨v4,kb,kw,rfl,s3,h1,h2,h3,h4,W⟩
  obtain⟨b,hb,rfl⟩:=ke hx
  obtain⟨l,hl,dx,vn,vu,vl,g1,⟨t,rfl,g2⟩,g3,g4⟩:=iz pa hb
  have Vx:l∈ls:=WI hl
  have hi:i<ls.length:=(List.getElem?_eq_some_iff.mp hl).1
  have Ay:∀x∈ls.take i,x.nm≠l.nm:=fun x hx z=>by
   obtain⟨j,hj⟩:=aaC.mp hx
   have IJ:j<i:=by have:=(List.getElem?_eq_some_iff.mp hj).1;rw[aay] at this;omega
   rw[aa7,aar IJ] at hj
   have e1:(ls.map (·.nm))[j]?=some l.nm:=by rw[Z4,hj,←z];rfl
   have e2:(ls.map (·.nm))[i]?=some l.nm:=by rw[Z4,hl];rfl
   have:=(abQ (List.getElem?_eq_some_iff.mp e1).1 nd).mp (e1.trans e2.symm)
   omega
  obtain⟨bb,dk,z1,z2,z3⟩:=hh2 l.nm (Br l Vx)
  have XC:=jf kb (nk l.nm) (V.ref b)
  refine⟨_,rfl,_,rfl,_,rfl,b,A.hV,dx,_,_,rfl,s3 _ _ g1,O.iP,O.hU,i5,bn,_,rfl,mK.t (k:=nk l.nm) h1 (s3 _ _ g2) (by omega),?_⟩
  have s4:gj H (L2.upd H2 bn (.dT (putK kb (nk l.nm) (V.ref b)))):=s3.upd Ue
  have Nb:L2.upd H2 bn (.dT (putK kb (nk l.nm) (V.ref b))) bn=some (.dT (putK kb (nk l.nm) (V.ref b))):=b_
  have h2':L2.upd H2 bn (.dT (putK kb (nk l.nm) (V.ref b))) wt=some (.dT kw):=by rw[e_ DS.symm];exact h2
  generalize L2.upd H2 bn (.dT (putK kb (nk l.nm) (V.ref b)))=H3 at s4 Nb h2' ⊢
  refine⟨_,rfl,a,rfl,⟨_,gH.of (s4 _ _ ha)⟩,kO (K:=K) (a:=a) (xs:=as.map V.ref) (by rw[TU,hlen];omega) (fun j ys σ H4=>∃v7:Option V,σ=[rr a,rr h,rr bn,rr wt,rr b,none,none,v7]∧H4=H3∧ys.length=oB (Ah al) (ls.take j) l)
   ⟨none,rfl,rfl,rfl⟩ (by rintro _ _ _ _ _ ⟨_,_,e,e2⟩;subst e;exact⟨gH.of (s4 _ _ ha),by rw[e2];unfold oB;exact XI (aaE _ _) (by rw[aay];omega)⟩) ?_ ?_⟩
  ·rintro j v ys σ H4 hx ⟨v7,rfl,rfl,e2⟩
   obtain⟨b2,IL,rfl⟩:=ke hx
   obtain⟨l2,K5,dx2,vn2,vu2,vl2,k1,⟨t2,rfl,k2⟩,k3,k4⟩:=iz pa IL
   refine⟨_,rfl,b2,A.hV,dx2,_,_,rfl,s4 _ _ k1,O.iP,O.hU,i5,_,rfl,_,rfl,b,A.hV,dx,_,_,rfl,s4 _ _ g1,O.iP,O.hU,i5,h,.ref bb,rfl,?_,bb,_,rfl,iZ.t (k:=nk l2.nm) (s4 _ _ z2) (s4 _ _ k2),_,rfl,?_⟩
   ·have:=iZ.t (k:=nk l.nm) (s4 _ _ Ud) (s4 _ _ g2)
    rw[z1] at this
    exact this
   ·unfold oB at e2 ⊢
    rw[take_snoc K5,aaB,W4]
    by_cases hm:Ah al l2.nm l.nm
    ·rw[(z3 l2.nm).mpr hm]
     refine kD ⟨_,rfl,_,rfl,rfl,?_⟩
     rw[aaa (by simpa using hm),aaP,W4,e2];rfl
    ·rw[abP.mpr fun z=>hm ((z3 l2.nm).mp z)]
     refine i_ ⟨_,rfl,rfl,?_⟩
     rw[aad (by simpa using hm),aaP,e2];rfl
  ·rintro ys σ H4 ⟨v7,rfl,rfl,e2⟩ p hp
   rw[TU,hlen,aaq] at e2
   have s5:=s4.new (o:=.lst ys) hp
   have N0:=W.len
   rw[aay] at N0
   refine⟨p,_,rfl,.inl (gH.of b_),_,rfl,_,rfl,b,A.hV,dx,_,_,rfl,s5 _ _ g1,O.iP,O.hU,i5,wt,_,rfl,mK.t (k:=nk l.nm) (ie hp h2') (s5 _ _ g2) (by omega),?_⟩
   refine⟨_,_,_,rfl,s5.upd QF,by rw[e_ DS];exact ie hp Nb,b_,by omega,fun x hx=>?_,⟨?_,fun x hx=>?_⟩⟩
   ·rw[take_snoc hl] at hx
    rcases Z3.mp hx with hx|hx
    ·obtain⟨c,c1,c2⟩:=h4 x hx
     exact⟨c,by rw[jW,aap (fun z=>Ay x hx (pf z))];exact c1,c2⟩
    ·rw[WG.mp hx]
     exact⟨b,by rw[jW,aar rfl],dx,_,vu,vl,g1,⟨t,rfl,g2⟩,g3,g4⟩
   ·rw[qc,W.keys,take_snoc hl,aat]
    exact aap fun z=>by
     obtain⟨x,hx,e⟩:=List.mem_map.mp z
     exact Ay x hx (pf e)
   ·rw[take_snoc hl] at hx
    rw[jW]
    rcases Z3.mp hx with hx|hx
    ·rw[aap (fun z=>Ay x hx (pf z))];exact W.val x hx
    ·rw[WG.mp hx,aar rfl,e2]
 ·rintro σ H2 ⟨v4,kb,kw,rfl,s3,h1,h2,h3,h4,W⟩
  have el:(as.map V.ref).length=ls.length:=by rw[TU];exact hlen
  rw[el,aaq] at h4 W
  refine⟨L2.jA,fun r pF=>?_⟩
  have Od:H r=none:=s3.free pF
  have hrb:bn≠r:=gh h1 pF
  have Ug:wt≠r:=gh h2 pF
  obtain⟨rk,LK⟩:=tpl
  refine⟨fun m σ H3=>∃(v6 v7:Option V)(kw:List (List Key×V))(rem row:List Ln)(rs:List Addr),m=rem.length∧σ=[rr a,rr h,rr bn,rr wt,v4,rr r,v6,v7]∧gj H H3∧H3 bn=some (.dT kb)∧H3 wt=some (.dT kw)∧H3 r=some (.lst (rs.map V.ref))∧Paired (nc A H) rs row∧Wait kw rem (oB (Ah al) rem)∧rem.Sublist ls∧row.length+rem.length=ls.length∧row++qZ (Ah al) rem.length rem=rowOf (Ah al) ls,
   ⟨ls.length,none,none,kw,ls,[],[],rfl,rfl,s3.new pF,ie pF h1,ie pF h2,b_,.nil,W,aaF _,by simp,rfl⟩,?_⟩
  rintro m σ H3 ⟨v6,v7,kw,rem,row,rs,rfl,rfl,s4,b1,w1,r1,pr,W,sub,hsum,Az⟩
  have Vy:(rem.map (·.nm)).Nodup:=(sub.map _).nodup nd
  refine⟨_,rfl,wt,kw,rfl,w1,?_⟩
  have N0:=W.len
  cases rem with
  | nil=>
   have:kw=[]:=aaG.mp N0
   subst this
   refine i_ ⟨_,rfl,q r _ s4 Od ⟨rs,r1,?_⟩⟩
   rw[show qZ (Ah al) ([]:List Ln).length []=[] from rfl,aaK] at Az
   rw[←Az]
   exact Paired.kC pr fun _ _ z=>z.same s4
  | cons x0 X_=>
   generalize Ya:x0::X_=rem at *
   have rB:rem≠[]:=by rw[←Ya];exact fun z=>by cases z
   obtain⟨l,Le⟩:=rQ (lt:=Ah al) LK rem rB
   have QG:l∈rem:=List.mem_of_find?_eq_some Le
   have Vz:l∈ls:=sub.subset QG
   have Oe:=l9 Vy QG
   refine GR (by cases kw with|nil=>exact absurd (aaG.mp N0.symm) rB|cons _ _=>rfl) ?_
   refine⟨fun σ H4=>∃(v6 v7:Option V)(kw:List (List Key×V))(lZ row:List Ln)(rs:List Addr),lZ.length<rem.length∧σ=[rr a,rr h,rr bn,rr wt,v4,rr r,v6,v7]∧gj H H4∧H4 bn=some (.dT kb)∧H4 wt=some (.dT kw)∧H4 r=some (.lst (rs.map V.ref))∧Paired (nc A H) rs row∧Wait kw lZ (oB (Ah al) lZ)∧lZ.Sublist ls∧row.length+lZ.length=ls.length∧row++qZ (Ah al) lZ.length lZ=rowOf (Ah al) ls,
    fun σ' H' ⟨u6,u7,Uh,lZ,Yb,rs2,jQ,z⟩=>⟨lZ.length,jQ,u6,u7,Uh,lZ,Yb,rs2,rfl,z⟩,?_⟩
   refine⟨_,rfl,wt,kw,rem,oB (Ah al) rem,l,rfl,w1,W,Vy,by rw[Ko];exact Le,fun t ht=>?_⟩
   have vZ:=W.val l QG
   refine⟨_,rfl,wt,rfl,.inr ⟨_,.inl w1⟩,_,rfl,t,kw,nk l.nm,_,rfl,w1,ht,vZ,?_⟩
   have s5:gj H (L2.upd H3 wt (.dT (jV kw (nk l.nm)))):=s4.upd QF
   have b2:L2.upd H3 wt (.dT (jV kw (nk l.nm))) bn=some (.dT kb):=by rw[e_ DS];exact b1
   have r2:L2.upd H3 wt (.dT (jV kw (nk l.nm))) r=some (.lst (rs.map V.ref)):=by rw[e_ Ug.symm];exact r1
   have t2:L2.upd H3 wt (.dT (jV kw (nk l.nm))) t=some (nT l.nm):=by rw[e_ (i7 ht w1 (fun z=>by cases z))];exact ht
   have w2:L2.upd H3 wt (.dT (jV kw (nk l.nm))) wt=some (.dT (jV kw (nk l.nm))):=b_
   have W2:Wait (jV kw (nk l.nm)) (rem.filter fun o=>o.nm≠l.nm) (oB (Ah al) rem):=⟨HX W.keys,fun o ho=>by
    have qh:=aao.mp ho
    rw[Kn _ _ _ (fun z=>by have:=pf z;simpa[this] using qh.2)]
    exact W.val o qh.1⟩
   generalize L2.upd H3 wt (.dT (jV kw (nk l.nm)))=H4 at s5 b2 r2 t2 w2 ⊢
   generalize jV kw (nk l.nm)=Uh at w2 W2
   obtain⟨bl,IS,VA⟩:=h4 l Vz
   have Yc:=aaj pr
   refine⟨_,rfl,.inl ⟨rfl,_,gH.of r2⟩,_,rfl,_,rfl,bn,.ref bl,rfl,?_,r,_,_,rfl,rfl,r2,by rw[TU,Yc];omega,?_⟩
   ·have:=iZ.t (k:=nk l.nm) b2 t2
    rw[IS] at this
    exact this
   have s6:gj H (L2.upd H4 r (.lst (rs.map V.ref++[V.ref bl]))):=s5.upd Od
   have b3:L2.upd H4 r (.lst (rs.map V.ref++[V.ref bl])) bn=some (.dT kb):=by rw[e_ hrb];exact b2
   have w3:L2.upd H4 r (.lst (rs.map V.ref++[V.ref bl])) wt=some (.dT Uh):=by rw[e_ Ug];exact w2
   have t3:L2.upd H4 r (.lst (rs.map V.ref++[V.ref bl])) t=some (nT l.nm):=by rw[e_ (i7 t2 r2 (fun z=>by cases z))];exact t2
   have r3:L2.upd H4 r (.lst (rs.map V.ref++[V.ref bl])) r=some (.lst ((rs++[bl]).map V.ref)):=by rw[b_,aat];rfl
   generalize L2.upd H4 r (.lst (rs.map V.ref++[V.ref bl]))=H5 at s6 b3 w3 t3 r3 ⊢
   have Hj:(rem.filter fun o=>o.nm≠l.nm).Sublist rem:=aaO
   generalize hR:(rem.filter fun o=>decide (o.nm≠l.nm))=lZ at W2 Hj Oe
   have Ui:(lZ.map (·.nm)).Nodup:=(Hj.map _).nodup Vy
   refine⟨_,rfl,wt,Uh,rfl,w3,fun p bs hp pbs=>?_⟩
   have s7:=s6.new (o:=.lst (bs.map V.ref)) hp
   have Yd:=aaj pbs
   have X0:=W2.len
   let Jv:=fun(j:Nat) (σ:St) (H6:Hp)=>∃(v7:Option V)(Lf:List (List Key×V)),σ=[rr a,rr h,rr bn,rr wt,v4,rr r,rr t,v7]∧gj H H6∧H6 bn=some (.dT kb)∧H6 wt=some (.dT Lf)∧H6 t=some (nT l.nm)∧H6 r=some (.lst ((rs++[bl]).map V.ref))∧H6 p=some (.lst (bs.map V.ref))∧(∀b∈bs,∀xs,H5 b=some (.tup xs)→H6 b=some (.tup xs))∧Lf.map (·.1)=lZ.map (fun l=>nk l.nm)∧∀(i:Nat)(o:Ln),lZ[i]?=some o→iI Lf (nk o.nm)=some (.int ((if i<j then oB (Ah al) lZ o else oB (Ah al) rem o:Nat):Int))
   refine⟨p,rfl,⟨_,gH.of b_⟩,iM (K:=K) (a:=p) (xs:=bs.map V.ref) Jv
    ⟨v7,Uh,rfl,s7,ie hp b3,ie hp w3,ie hp t3,ie hp r3,b_,fun b _ xs e=>ie hp e,W2.keys,fun i o ho=>by rw[aap (by omega)];exact W2.val o (WI ho)⟩ (by rintro _ _ _ _ ⟨_,_,_,_,_,_,_,_,e,_⟩;exact gH.of e) ?_ ?_⟩
   ·rintro j v σ H6 hx ⟨v7,Lf,rfl,s8,b4,w4,t4,r4,p4,Nq,B7,Lg⟩
    obtain⟨c,hc,rfl⟩:=ke hx
    obtain⟨⟨k,v⟩,hkv,Ye⟩:=j6 pbs hc
    obtain⟨o,ho,rfl,rfl⟩:=W2.get Ui hkv
    have QH:o∈rem:=Hj.subset (WI ho)
    have Yf:H6 c=some (nT o.nm):=Nq c (WI hc) _ Ye
    obtain⟨bb,dk,z1,z2,z3⟩:=hh2 o.nm (Br o (sub.subset QH))
    have B5:=Kq (lt:=Ah al) Vy QG o
    have upv:∀(Uj:List (List Key×V)),Uj.map (·.1)=lZ.map (fun l=>nk l.nm)→(∀x∈lZ,x.nm≠o.nm→iI Uj (nk x.nm)=iI Lf (nk x.nm))→iI Uj (nk o.nm)=some (.int ((oB (Ah al) lZ o:Nat):Int))→∀(i:Nat)(x:Ln),lZ[i]?=some x→iI Uj (nk x.nm)=some (.int ((if i<j+1 then oB (Ah al) lZ x else oB (Ah al) rem x:Nat):Int)):=fun Uj _ h1 h2 i x LN=>by
     by_cases e:i=j
     ·subst e
      rw[ho] at LN
      cases LN
      rw[aar (ab2 _)]
      exact h2
     ·have Yg:x.nm≠o.nm:=fun z=>by
       have e1:(lZ.map (·.nm))[i]?=some o.nm:=by rw[Z4,LN,←z];rfl
       have e2:(lZ.map (·.nm))[j]?=some o.nm:=by rw[Z4,ho];rfl
       exact e ((abQ (List.getElem?_eq_some_iff.mp e1).1 Ui).mp (e1.trans e2.symm))
      rw[h1 x (WI LN) Yg,Lg i x LN]
      by_cases DR:i<j
      ·rw[aar DR,aar (by omega)]
      ·rw[aap DR,aap (by omega)]
    rw[hR] at B5
    refine⟨_,rfl,_,rfl,_,rfl,h,.ref bb,rfl,?_,bb,_,rfl,iZ.t (k:=nk l.nm) (s8 _ _ z2) t4,_,rfl,?_⟩
    ·have:=iZ.t (k:=nk o.nm) (s8 _ _ Ud) Yf
     rw[z1] at this
     exact this
    by_cases hm:Ah al l.nm o.nm
    ·rw[(z3 l.nm).mpr hm]
     rw[aar hm] at B5
     refine kD ?_
     have Uk:=Lg j o ho
     rw[aap (abg _)] at Uk
     have hg:iZ H6 wt (.ref c) (some (.int ((oB (Ah al) rem o:Nat):Int))):=by
      have:=iZ.t (k:=nk o.nm) w4 Yf
      rw[Uk] at this
      exact this
     have hk3:Lf.length=lZ.length:=by have:=aa6 List.length B7;rwa [TU,TU] at this
     refine⟨_,rfl,_,rfl,wt,_,rfl,hg,_,_,rfl,rfl,_,rfl,_,rfl,wt,_,rfl,mK.t (k:=nk o.nm) w4 Yf (by omega),?_⟩
     have kk:(putK Lf (nk o.nm) (V.int ((oB (Ah al) rem o:Nat)-1))).map (·.1)=lZ.map (fun l=>nk l.nm):=by
      rw[qc,B7]
      exact aar (List.mem_map.mpr ⟨o,WI ho,rfl⟩)
     refine⟨_,_,rfl,s8.upd QF,by rw[e_ DS];exact b4,b_,by rw[e_ (i7 t4 w4 (fun z=>by cases z))];exact t4,by rw[e_ Ug.symm];exact r4,by rw[e_ (i7 p4 w4 (fun z=>by cases z))];exact p4,fun b hb xs e=>?_,kk,upv _ kk (fun x _ Yg=>?_) ?_⟩
     ·have:=Nq b hb xs e
      rw[e_ (i7 this w4 (fun z=>by cases z))];exact this
     ·rw[jW,aap (fun z=>Yg (pf z))]
     ·rw[jW,aar rfl]
      have e9:((oB (Ah al) rem o:Nat):Int)-1=((oB (Ah al) lZ o:Nat):Int):=by omega
      exact aa6 (fun z=>some (V.int z)) e9
    ·rw[abP.mpr fun z=>hm ((z3 l.nm).mp z)]
     rw[aap hm] at B5
     refine i_ ⟨_,Lf,rfl,s8,b4,w4,t4,r4,p4,Nq,B7,upv Lf B7 (fun x _ _=>rfl) ?_⟩
     have Uk:=Lg j o ho
     rw[aap (abg _)] at Uk
     rw[Uk,B5,Nat.add_zero]
   ·rintro σ H6 ⟨v7,Lf,rfl,s8,b4,w4,t4,r4,p4,Nq,B7,Lg⟩
    have hlen2:(bs.map V.ref).length=lZ.length:=by rw[TU,←Yd,X0]
    refine⟨_,_,Lf,lZ,row++[l],rs++[bl],by omega,rfl,s8,b4,w4,r4,iA pr VA,⟨B7,fun o ho=>?_⟩,Hj.trans sub,by rw[W4];show row.length+1+lZ.length=_;omega,?_⟩
    ·obtain⟨i,hi⟩:=aaC.mp ho
     have N8:=(List.getElem?_eq_some_iff.mp hi).1
     rw[Lg i o hi,aar (by omega)]
    ·rw[←Az,←Oe,Kr Le,aaQ,hR]
     rfl
end
end PK
namespace Kp
open PySem L2
noncomputable abbrev Va:Stmt:=PK.pb
noncomputable abbrev Vb:Stmt:=PK.qz
noncomputable abbrev WR:Stmt:=PK.qA
noncomputable abbrev NN:Stmt:=PK.FW
structure Txt(mg:Qqx):Prop where
 len:mg "len"=none
 range:mg "range"=none
 max:mg "max"=none
noncomputable abbrev gp(l:List Str):List V:=l.map V.str
noncomputable def tab(old new:List Str)(i:Nat):List V:=(List.range (new.length+1)).map fun j=>V.int (K01.wF old new i j)
theorem C1{old new:List Str}{i j:Nat}(h:j≤new.length):(tab old new i)[j]?=some (V.int (K01.wF old new i j)):=by
 unfold tab
 rw[Z4,abu (by omega)]
 rfl
noncomputable def part(old new:List Str)(i k:Nat):List V:=(List.range (new.length+1)).map fun j=>if new.length-k≤j then V.int (K01.wF old new i j) else V.int 0
theorem G0{old new:List Str}{i k j:Nat}(h:j≤new.length)(hk:new.length-k≤j):(part old new i k)[j]?=some (V.int (K01.wF old new i j)):=by
 unfold part
 rw[Z4,abu (by omega)]
 show some (if _ then _ else _)=_
 rw[aar hk]
theorem Ae(old new:List Str)(i k:Nat):(part old new i k).length=new.length+1:=by unfold part;rw[TU,aaR]
theorem Ks(old new:List Str)(i:Nat):part old new i new.length=tab old new i:=by
 unfold part tab
 refine ab1 fun j _=>?_
 rw[aar (by omega)]
theorem BY(old new:List Str)(i n:Nat)(h:n=new.length+1):(List.replicate n [V.int 0]).flatten=part old new i 0:=by
 subst h
 refine List.ext_getElem? fun j=>?_
 unfold part
 rw[Z4]
 have e:(List.replicate (new.length+1) [V.int 0]).flatten=List.replicate (new.length+1) (V.int 0):=by
  generalize new.length+1=m
  induction m with
  | zero=>rfl
  | succ m ih=>rw[abd,abU,ih,abd];rfl
 rw[e,List.getElem?_replicate]
 by_cases hj:j<new.length+1
 ·rw[aar hj,abu hj]
  show some _=some (if _ then _ else _)
  by_cases h2:new.length-0≤j
  ·rw[aar h2,K01.yO (.inr (by omega))];rfl
  ·rw[aap h2]
 ·rw[aap hj,List.getElem?_eq_none_iff.mpr (by rw[aaR];omega)]
  rfl
theorem EZ{old new:List Str}{i k:Nat}(h:k<new.length):(part old new i k).set (new.length-1-k) (V.int (K01.wF old new i (new.length-1-k)))=part old new i (k+1):=by
 refine List.ext_getElem? fun j=>?_
 by_cases e:j=new.length-1-k
 ·subst e
  rw[abb (by rw[Ae];omega),G0 (by omega) (by omega)]
 ·rw[abi (fun z=>e z.symm)]
  unfold part
  rw[Z4,Z4]
  by_cases hj:j<new.length+1
  ·rw[abu hj]
   show some (if _ then _ else _)=some (if _ then _ else _)
   by_cases h2:new.length-k≤j
   ·rw[aar h2,aar (by omega)]
   ·rw[aap h2,aap (by omega)]
  ·rw[List.getElem?_eq_none_iff.mpr (by rw[aaR];omega)]
   rfl
theorem oF{l:List Str}{j:Nat}{x:Str}(h:l[j]?=some x):(gp l)[j]?=some (V.str x):=by rw[Z4,h];rfl
section
variable{P:Program}{w:World}{K:Qqy}{mg:Qqx}{base:Heap}
theorem PN:gv ["text","new","below","counts","second"] ["text","new","below"] (f_ Va):=⟨rfl,rfl,rfl,by decide+kernel,rfl,by decide+kernel,by decide+kernel⟩
def SJ:Sp:=fun vs H Q _=>∃(old new:List Str)(i:Nat)(t:Str)(n b:Addr),vs=[.str t,.ref n,.ref b]∧old[i]?=some t∧H n=some (.lst (gp new))∧H b=some (.lst (tab old new (i+1)))∧new.length≤1000∧
 ∀p H',gj H H'→H p=none→H' p=some (.lst (tab old new i))→Q (.ref p) H'
theorem SK{f:Addr}{fd:FuncData}(F:xv K "counts_with" "counts_with" Va f fd)(T:Txt mg):ij P w K mg base mr 1 f fd ["text","new","below"] SJ:=by
 refine F.qr PN fun jl A outer s H vs Q E hr h=>?_
 obtain⟨old,new,i,t,n,b,rfl,ht,hn,hb,hl,k⟩:=h
 refine⟨_,de (lq (i:=3) PN.nd rfl (Or.inl rfl) (gr Ck (iO (a_ gc d_)) (gr iC (gs gk (by rfl) T.len aah (a_ (pv 1) d_)) gc)))
  (de (il aam rfl (tf rfl T.range (a_ (gr o8 (gs gk (by rfl) T.len aah (a_ (pv 1) d_)) gc) (a_ (rJ nO gc) (a_ (rJ nO gc) d_)))) (iw (i:=4) PN.nd rfl (Or.inl rfl))
   (fR (ik (ib l4 (j5 kL (pv 1) (pv 4) (fun _ _=>rfl)) (pv 0) (ip _))
    (fR (y0 (gr iC (j5 kL (pv 2) (gr iC (pv 4) gc) (fun _ _=>rfl)) gc) (yZ (pv 3) (pv 4) set_list)))
    (fR (y0 (gs (Hr rfl) (by rfl) T.max PyProof.Rows.boot_max (a_ (j5 kL (pv 2) (pv 4) (fun _ _=>rfl)) (a_ (j5 kL (pv 3) (gr iC (pv 4) gc) (fun _ _=>rfl)) d_))) (yZ (pv 3) (pv 4) set_list))))))
  (fR (hE (pv 3)))),?_⟩
 refine DO ?_;intro _ _
 refine⟨jA,fun l N_=>?_⟩
 have QI:(upd H l (.lst [V.int 0])) n=some (.lst (gp new)):=by rw[e_ (gh hn N_)];exact hn
 refine⟨_,rfl,n,_,rfl,.inl (gH.of QI),_,_,rfl,rfl,l,_,_,rfl,rfl,b_,by simp<;>omega,by simp<;>omega,by simp;have:sizeLine=2 ^ 24:=rfl;omega,fun p hp=>?_⟩
 have qi:p≠l:=fun z=>by rw[z,b_] at hp;cases hp
 have Gv:H p=none:=by rw[e_ qi] at hp;exact hp
 have s0:gj H (upd H l (.lst [V.int 0])):=(gj.refl H).upd N_
 have e0:(List.replicate (((gp new).length:Int)+1).toNat [V.int 0]).flatten=part old new i 0:=BY old new i _ (by simp<;>omega)
 rw[e0]
 have s1:gj H (upd (upd H l (.lst [V.int 0])) p (.lst (part old new i 0))):=s0.upd Gv
 refine⟨_,rfl,n,_,rfl,.inl (gH.of (s1 n _ hn)),_,_,rfl,rfl,_,rfl,_,rfl,_,_,rfl,⟨by simp<;>omega,by simp<;>omega,by omega,by omega⟩,?_⟩
 have en:((((gp new).length:Int)-1) - -1).toNat=new.length:=by simp<;>omega
 rw[en]
 let Jv:=fun(m:Nat) (σ:St) (H2:Hp)=>∃v,σ=[rs t,rr n,rr b,rr p,v]∧gj H H2∧H2 p=some (.lst (part old new i m))
 refine ql Jv ⟨none,rfl,s1,b_⟩ ?_ ?_
 ·rintro m σ H2 hm ⟨v,rfl,s2,h2⟩
  obtain⟨j,hj⟩:∃j,j=new.length-1-m:=⟨_,rfl⟩
  have QJ:j<new.length:=by omega
  rw[show((gp new).length:Int)-1+(m:Int) * -1=(j:Int) by simp<;>omega]
  have QK:new[j]?=some new[j]:=TZ QJ
  have B:=K01.Mq ht QK
  refine⟨_,rfl,_,rfl,n,_,_,_,rfl,rfl,gH.of (s2 n _ hn),ic rfl (oF QK),_,rfl,rfl,_,rfl,?_⟩
  refine kF (fun hc=>?_) (fun hc=>?_)
  ·have hc:new[j]=t:=by have:=aak hc;injection this
   rw[aar hc] at B
   refine⟨_,rfl,_,rfl,_,_,rfl,rfl,b,_,_,_,rfl,rfl,gH.of (s2 b _ hb),ic (j:=j+1) (by omega) (C1 (by omega)),_,_,rfl,rfl,_,rfl,_,rfl,p,_,_,j,rfl,rfl,h2,zw rfl (by rw[Ae];omega),?_⟩
   refine⟨_,rfl,s2.upd Gv,?_⟩
   rw[b_]
   dsimp only
   have e:((K01.wF old new (i+1) (j+1):Nat):Int)+1=((K01.wF old new i j:Nat):Int):=by omega
   rw[e,hj,EZ hm]
  ·have hc:¬new[j]=t:=fun z=>hc (by rw[z];exact WM rfl)
   rw[aap hc] at B
   refine⟨_,rfl,_,rfl,b,_,_,_,rfl,rfl,gH.of (s2 b _ hb),ic rfl (C1 (by omega)),_,rfl,_,rfl,_,_,rfl,rfl,p,_,_,_,rfl,rfl,gH.of h2,ic (j:=j+1) (by omega) (G0 (by omega) (by omega)),_,_,rfl,_,rfl,_,rfl,p,_,_,j,rfl,rfl,h2,zw rfl (by rw[Ae];omega),?_⟩
   refine⟨_,rfl,s2.upd Gv,?_⟩
   rw[b_]
   have e:(if((K01.wF old new i (j+1):Nat):Int)>((K01.wF old new (i+1) j:Nat):Int) then((K01.wF old new i (j+1):Nat):Int) else((K01.wF old new (i+1) j:Nat):Int))=((K01.wF old new i j:Nat):Int):=by split<;>omega
   rw[e,hj,EZ hm]
 ·rintro σ H2 ⟨v,rfl,s2,h2⟩
  refine⟨_,rfl,k p H2 s2 Gv ?_⟩
  rw[h2,Ks]
def NO(H:Hp)(old new:List Str)(rows:List V)(Ul:Nat):Prop:=rows.length=old.length+1∧∀i,i≤old.length→∃a,rows[i]?=some (.ref a)∧(Ul≤i→H a=some (.lst (tab old new i)))
noncomputable abbrev nMP:List Str:=["old","new","table","first","place"]
theorem MF:gv ["old","new","table","first","place"] ["old","new"] (f_ Vb):=⟨rfl,rfl,rfl,by decide+kernel,rfl,by decide+kernel,by decide+kernel⟩
def SM:Sp:=fun vs H Q _=>∃(old new:List Str)(o n:Addr),vs=[.ref o,.ref n]∧H o=some (.lst (gp old))∧H n=some (.lst (gp new))∧old.length≤1000∧new.length≤1000∧
 ∀p H' rows,gj H H'→H p=none→H' p=some (.lst rows)→NO H' old new rows 0→Q (.ref p) H'
theorem Kt(new:List Str)(n:Nat)(h:n=new.length+1):(List.replicate n [V.int 0]).flatten=tab [] new 0:=by
 rw[BY [] new 0 n h]
 unfold part tab
 refine ab1 fun j _=>?_
 rw[show K01.wF ([]:List Str) new 0 j=0 from K01.yO (.inl (by simp))]
 split<;>rfl
theorem MG(old new:List Str)(n:Nat)(h:n=new.length+1):(List.replicate n [V.int 0]).flatten=tab old new old.length:=by
 rw[Kt new n h]
 unfold tab
 refine ab1 fun j _=>?_
 rw[show K01.wF ([]:List Str) new 0 j=0 from K01.yO (.inl (by simp)),K01.yO (.inl (WL _))]
theorem SN{f fC:Addr}{fd Rx:FuncData}(F:xv K "most_pairs" "most_pairs" Vb f fd)(T:Txt mg)(C:xv K "counts_with" "counts_with" Va fC Rx)(bC:Binds K Rx ["text","new","below"] [])(mC:mg "counts_with"=some (.ref fC)) :
  ij P w K mg base mr 2 f fd ["old","new"] SM:=by
 have GC:ij P w K mg base mr 1 fC Rx ["text","new","below"] SJ:=SK C T
 refine F.qr MF fun jl A outer s H vs Q E hr h=>?_
 obtain⟨old,new,o,n,rfl,ho,hn,Xg,uO,k⟩:=h
 refine⟨_,de (Ek (j:=2) nMP (f_ Vb).names [4] MF.nd rfl rfl rfl (jh rfl T.range (a_ (gr iC (gs gk (by rfl) T.len aah (a_ (pv 0) d_)) gc) d_)) rfl (by decide+kernel)
   (fun _ _ _ _=>iw (i:=4) MF.nd rfl (Or.inl rfl)) (fun _ _ _ _=>nV) (fun _ _ _ _=>⟨_,gr Ck (iO (a_ gc d_)) (gr iC (gs gk (by rfl) T.len aah (a_ (pv 1) d_)) gc),by(try simp only [ku]);rfl⟩))
  (de (il aam rfl (tf rfl T.range (a_ (gr o8 (gs gk (by rfl) T.len aah (a_ (pv 0) d_)) gc) (a_ (rJ nO gc) (a_ (rJ nO gc) d_)))) (iw (i:=3) MF.nd rfl (Or.inl rfl))
   (fR (y0 (uU GC hr rfl mC C.kp bC .nil nU (a_ (j5 kL (pv 0) (pv 3) (fun _ _=>rfl)) (a_ (pv 1) (a_ (j5 kL (pv 2) (gr iC (pv 3) gc) (fun _ _=>rfl)) d_)))) (yZ (pv 2) (pv 3) set_list))))
  (fR (hE (pv 2)))),?_⟩
 refine DO ?_;intro _ _
 refine⟨_,rfl,o,_,rfl,.inl (gH.of ho),_,_,rfl,rfl,_,rfl,by simp<;>omega,by simp<;>omega,?_⟩
 have en:(((gp old).length:Int)+1).toNat=old.length+1:=by simp<;>omega
 rw[en]
 let Jv:=fun(m:Nat) (ys:List V) (σ:St) (H2:Hp)=>∃v,σ=[rr o,rr n,none,none,v]∧gj H H2∧ys.length=m∧∀i,i<m→∃a,ys[i]?=some (.ref a)∧H a=none∧H2 a=some (.lst (tab old new old.length))
 refine nX (by have:sizeLine=2 ^ 24:=rfl;omega) Jv
  ⟨none,rfl,gj.refl H,rfl,fun i hi=>absurd hi (Nat.not_lt_zero _)⟩ (by rintro _ _ _ _ ⟨_,_,_,e,_⟩;exact Nat.le_of_eq e) ?_ ?_
 ·rintro m ys σ H2 hm ⟨v,rfl,s2,hy,B8⟩
  refine⟨jA,fun l N_=>?_⟩
  have s3:gj H (upd H2 l (.lst [V.int 0])):=s2.new N_
  refine⟨_,rfl,n,_,rfl,.inl (gH.of (s3 n _ hn)),_,_,rfl,rfl,l,_,_,rfl,rfl,b_,by simp<;>omega,by simp<;>omega,by simp;have:sizeLine=2 ^ 24:=rfl;omega,fun p hp=>?_⟩
  rw[MG old new _ (show(((gp new).length:Int)+1).toNat=new.length+1 by simp<;>omega)]
  have qi:p≠l:=fun z=>by rw[z,b_] at hp;cases hp
  have AZ:H2 p=none:=by rw[e_ qi] at hp;exact hp
  refine⟨_,rfl,s3.new hp,by rw[W4,hy];rfl,fun i hi=>?_⟩
  by_cases e:i<m
  ·obtain⟨a,e1,e2,e3⟩:=B8 i e
   refine⟨a,by rw[aba (by omega)];exact e1,e2,?_⟩
   rw[e_ (gh e3 AZ),e_ (gh e3 N_)]
   exact e3
  ·have:i=m:=by omega
   subst this
   exact⟨p,by rw[aa9 (by omega),hy];simp,s2.free AZ,b_⟩
 ·rintro ys σ H2 ⟨v,rfl,s2,hy,B8⟩ p hp
  have s3:gj H (upd H2 p (.lst ys)):=s2.new hp
  have Gv:H p=none:=s2.free hp
  refine⟨_,rfl,o,_,rfl,.inl (gH.of (s3 o _ ho)),_,_,rfl,rfl,_,rfl,_,rfl,_,_,rfl,⟨by simp<;>omega,by simp<;>omega,by omega,by omega⟩,?_⟩
  have en:((((gp old).length:Int)-1) - -1).toNat=old.length:=by simp<;>omega
  rw[en]
  let Jv:=fun(m:Nat) (σ:St) (H3:Hp)=>∃v w rows,σ=[rr o,rr n,rr p,v,w]∧gj H H3∧H3 p=some (.lst rows)∧NO H3 old new rows (old.length-m)∧∀i a,i≤old.length→rows[i]?=some (.ref a)→a≠p
  refine ql Jv
   ⟨_,_,ys,rfl,s3,b_,⟨hy,fun i hi=>?_⟩,fun i a hi ha=>?_⟩ ?_ ?_
  ·obtain⟨a,e1,e2,e3⟩:=B8 i (by omega)
   refine⟨a,e1,fun z=>?_⟩
   have:i=old.length:=by omega
   subst this
   rw[e_ (gh e3 hp)]
   exact e3
  ·obtain⟨a',e1,e2,e3⟩:=B8 i (by omega)
   rw[ha] at e1
   cases e1
   exact gh e3 hp
  ·rintro m σ H3 hm ⟨v,w',rows,rfl,s4,h4,tb,nb⟩
   obtain⟨i,hi⟩:∃i,i=old.length-1-m:=⟨_,rfl⟩
   have N8:i<old.length:=by omega
   rw[show((gp old).length:Int)-1+(m:Int) * -1=(i:Int) by simp<;>omega]
   have Vp:old[i]?=some old[i]:=TZ N8
   obtain⟨b,e1,e2⟩:=tb.2 (i+1) (by omega)
   refine⟨_,rfl,_,rfl,o,_,_,_,rfl,rfl,gH.of (s4 o _ ho),ic rfl (oF Vp),_,rfl,_,rfl,_,rfl,_,_,rfl,rfl,p,_,_,_,rfl,rfl,gH.of h4,ic (j:=i+1) (by omega) e1,?_⟩
   refine⟨old,new,i,_,n,b,rfl,Vp,s4 n _ hn,e2 (by omega),uO,fun q H5 s5 Ry h5=>?_⟩
   have Rz:q≠p:=fun z=>by rw[z,h4] at Ry;cases Ry
   refine⟨_,rfl,_,rfl,p,rows,_,i,rfl,rfl,s5 p _ h4,zw rfl (by rw[tb.1];omega),?_⟩
   refine⟨_,_,_,rfl,(s4.trans s5).upd Gv,b_,⟨by rw[acn];exact tb.1,fun i' Bq=>?_⟩,fun i' a Bq ha=>?_⟩
   ·by_cases e:i'=i
    ·subst e
     refine⟨q,by rw[abb (by rw[tb.1];omega)],fun _=>?_⟩
     rw[e_ Rz];exact h5
    ·obtain⟨a,a1,a2⟩:=tb.2 i' Bq
     refine⟨a,by rw[abi (fun z=>e z.symm)];exact a1,fun z=>?_⟩
     rw[e_ (nb i' a Bq a1)]
     exact s5 a _ (a2 (by omega))
   ·by_cases e:i'=i
    ·subst e
     rw[abb (by rw[tb.1];omega)] at ha
     cases ha
     exact Rz
    ·rw[abi (fun z=>e z.symm)] at ha
     exact nb i' a Bq ha
  ·rintro σ H3 ⟨v,w',rows,rfl,s4,h4,tb,nb⟩
   refine⟨_,rfl,k p H3 rows s4 Gv h4 ?_⟩
   rw[acm] at tb
   exact tb
end
end Kp
namespace K01
theorem C3{α:Type}[DecidableEq α]{a:α}{new:List α}{j k:Nat}(hj:j≤k)(hk:new[k]?=some a)(hm:∀l,j≤l→l<k→new[l]?≠some a):ja a new j=some k:=by
 cases e:ja a new j with
 | none=>exact absurd hk (n4 e k hj)
 | some k'=>
  obtain⟨h1,h2,h3⟩:=kG e
  rcases abX k k' with h|h|h
  ·exact absurd hk (h3 k hj h)
  ·rw[h]
  ·exact absurd h2 (hm k' h1 h)
theorem C4{α:Type}[DecidableEq α]{a:α}{new:List α}{j:Nat}(hm:∀l,j≤l→l<new.length→new[l]?≠some a):ja a new j=none:=by
 cases e:ja a new j with
 | none=>rfl
 | some k'=>
  obtain⟨h1,h2,h3⟩:=kG e
  exact absurd h2 (hm k' h1 (List.getElem?_eq_some_iff.mp h2).1)
end K01
namespace Kp
open PySem L2
section
variable{P:Program}{w:World}{K:Qqy}{mg:Qqx}{base:Heap}
noncomputable def WS:Option Nat→V
 | none=>.jm
 | some k=>.int k
theorem SO:gv ["texts","text","start","place"] ["texts","text","start"] (f_ WR):=⟨rfl,rfl,rfl,by decide+kernel,rfl,by decide+kernel,by decide+kernel⟩
def SQ:Sp:=fun vs H Q _=>∃(new:List Str)(t:Str)(n:Addr)(j:Nat),vs=[.ref n,.str t,.int j]∧H n=some (.lst (gp new))∧new.length≤1000∧j≤1000∧Q (WS (K01.ja t new j)) H
theorem SR{f:Addr}{fd:FuncData}(F:xv K "place_from" "place_from" WR f fd)(T:Txt mg):ij P w K mg base mr 1 f fd ["texts","text","start"] SQ:=by
 refine F.qr SO fun jl A outer s H vs Q E hr h=>?_
 obtain⟨new,t,n,j,rfl,hn,hl,hj,k⟩:=h
 refine⟨_,de (il aam rfl (pJ rfl T.range (a_ (pv 2) (a_ (gs gk (by rfl) T.len aah (a_ (pv 0) d_)) d_))) (iw (i:=3) SO.nd rfl (Or.inl rfl))
   (fR (ik (ib l4 (j5 kL (pv 0) (pv 3) (fun _ _=>rfl)) (pv 1) (ip _)) (fR (hE (pv 3))) g_)))
  (fR (hE uf)),?_⟩
 refine LD ?_;intro _
 refine⟨_,rfl,_,rfl,n,_,rfl,.inl (gH.of hn),_,_,rfl,⟨by omega,by omega,by simp<;>omega,by simp<;>omega⟩,?_⟩
 let Jv:=fun(m:Nat) (σ:St) (H2:Hp)=>∃v,σ=[rr n,rs t,ri j,v]∧H2=H∧∀l,j≤l→l<j+m→new[l]?≠some t
 refine jB Jv ⟨none,rfl,rfl,fun l h1 h2=>by omega⟩ ?_ ?_
 ·rintro m σ H2 hm ⟨v,rfl,rfl,h2⟩
  have hm:j+m<new.length:=by simp at hm;omega
  rw[show(j:Int)+(m:Int)=((j+m:Nat):Int) by omega]
  have QK:new[j+m]?=some new[j+m]:=TZ hm
  refine⟨_,rfl,_,rfl,n,_,_,_,rfl,rfl,gH.of hn,ic rfl (oF QK),_,rfl,rfl,_,rfl,?_⟩
  refine kF (fun hc=>?_) (fun hc=>?_)
  ·have hc:new[j+m]=t:=by have:=aak hc;injection this
   rw[hc] at QK
   rw[K01.C3 (Nat.le_add_right j m) QK h2] at k
   exact⟨_,rfl,k⟩
  ·have hc:¬new[j+m]=t:=fun z=>hc (by rw[z];exact WM rfl)
   refine⟨_,rfl,rfl,fun l h3 h4=>?_⟩
   by_cases e:l=j+m
   ·subst e
    rw[QK]
    intro z
    exact hc (aaA z)
   ·exact h2 l h3 (by omega)
 ·rintro σ H2 ⟨v,rfl,rfl,h2⟩
  rw[K01.C4 (j:=j) fun l h3 h4=>h2 l h3 (by simp<;>omega)] at k
  exact k
def lW(H:Hp)(q:Nat×Nat)(v:V):Prop:=∃a,v=.ref a∧H a=some (.tup [.int q.1,.int q.2])
abbrev iV(H:Hp)(l:List (Nat×Nat))(vs:List V):Prop:=Paired (lW H) l vs
theorem iV.keep{H H':Hp}{l:List (Nat×Nat)}{vs:List V}(h:iV H l vs)(k:∀a xs,H a=some (.tup xs)→H' a=some (.tup xs)):iV H' l vs:=
 Paired.kC h fun q v ⟨a,e,h⟩=>⟨a,e,k a _ h⟩
theorem PQ:gv ["old","new","table","pairs","start","first","second"] ["old","new"] (f_ NN):=⟨rfl,rfl,rfl,by decide+kernel,rfl,by decide+kernel,by decide+kernel⟩
def Z_:Sp:=fun vs H Q _=>∃(old new:List Str)(o n:Addr),vs=[.ref o,.ref n]∧H o=some (.lst (gp old))∧H n=some (.lst (gp new))∧old.length≤1000∧new.length≤1000∧
 ∀p H' ps,gj H H'→H p=none→H' p=some (.lst ps)→iV H' (K01.kept old new) ps→Q (.ref p) H'
theorem MH{f fM fC fP:Addr}{fd Yh Rx Yi:FuncData}(F:xv K "kept" "kept" NN f fd)(T:Txt mg)(C:xv K "counts_with" "counts_with" Va fC Rx)(bC:Binds K Rx ["text","new","below"] [])(mC:mg "counts_with"=some (.ref fC))
  (M:xv K "most_pairs" "most_pairs" Vb fM Yh) (bM:Binds K Yh ["old","new"] []) (mM:mg "most_pairs"=some (.ref fM)) (Pf:xv K "place_from" "place_from" WR fP Yi) (bP:Binds K Yi ["texts","text","start"] []) (mP:mg "place_from"=some (.ref fP)) :
  ij P w K mg base mr 3 f fd ["old","new"] Z_:=by
 have GM:ij P w K mg base mr 2 fM Yh ["old","new"] SM:=SN M T C bC mC
 have GP:ij P w K mg base mr 2 fP Yi ["texts","text","start"] SQ:=(SR Pf T).mono (by decide)
 refine F.qr PQ fun jl A outer s H vs Q E hr h=>?_
 obtain⟨old,new,o,n,rfl,ho,hn,Xg,uO,k⟩:=h
 refine⟨_,de (lq (i:=2) PQ.nd rfl (Or.inl rfl) (uU GM hr rfl mM M.kp bM .nil nU (a_ (pv 0) (a_ (pv 1) d_))))
  (de (lq (i:=3) PQ.nd rfl (Or.inl rfl) (iO d_))
  (de (lq (i:=4) PQ.nd rfl (Or.inl rfl) gc)
  (de (il aam rfl (jh rfl T.range (a_ (gs gk (by rfl) T.len aah (a_ (pv 0) d_)) d_)) (iw (i:=5) PQ.nd rfl (Or.inl rfl))
   (de (lq (i:=6) PQ.nd rfl (Or.inl rfl) (uU GP hr rfl mP Pf.kp bP .nil nU (a_ (pv 1) (a_ (j5 kL (pv 0) (pv 5) (fun _ _=>rfl)) (a_ (pv 4) d_)))))
   (fR (ik (pw_and (i9 (sZ (pv 6))) (pw_and1 (ib l4
     (gr iC (j5 kL (j5 kL (pv 2) (gr iC (pv 5) gc) (fun _ _=>rfl)) (gr iC (pv 6) gc) (fun _ _=>rfl)) gc)
     (j5 kL (j5 kL (pv 2) (pv 5) (fun _ _=>rfl)) (pv 4) (fun _ _=>rfl)) (ip _)))).pt
    (de (hX (nP aaI aaM aaN jC (pv 3) (a_ (rM (a_ (pv 5) (a_ (pv 6) d_))) d_)))
    (fR (lq (i:=4) PQ.nd rfl (Or.inl rfl) (gr iC (pv 6) gc))))
    g_))))
  (fR (hE (pv 3)))))),?_⟩
 refine Pc ?_;intro _ _ _ _
 refine⟨_,rfl,_,rfl,old,new,o,n,rfl,ho,hn,Xg,uO,fun tb H1 rows s1 XZ h1 Um=>?_⟩
 refine⟨jA,fun pr VB=>?_⟩
 have Yj:H pr=none:=s1.free VB
 refine⟨_,rfl,o,_,rfl,.inl (gH.of (s1.new VB o _ ho)),_,rfl,by simp<;>omega,by simp<;>omega,?_⟩
 have en:((gp old).length:Int).toNat=old.length:=by simp
 rw[en]
 refine jB (fun m σ H2=>∃(j:Nat)(acc:List (Nat×Nat))(ps:List V)(v w:Option V),σ=[rr o,rr n,rr tb,rr pr,ri j,v,w]∧gj H1 H2∧H2 pr=some (.lst ps)∧iV H2 acc ps∧acc.length≤m∧j≤new.length∧
   acc++K01.pN new m (old.drop m) j=K01.kept old new) ⟨0,[],[],none,none,rfl,(gj.refl H1).new VB,b_,.nil,WL _,aaz _,rfl⟩ ?_ ?_
 ·rintro m σ H2 hm ⟨j,acc,ps,v,w',rfl,s2,h2,pa,vY,hj,hk⟩
  rw[show(0:Int)+(m:Int)=(m:Int) by omega]
  have hom:old[m]?=some old[m]:=TZ hm
  have hd:old.drop m=old[m]::old.drop (m+1):=aaT hm
  rw[hd,K01.pN] at hk
  refine⟨_,rfl,_,rfl,_,rfl,o,_,_,_,rfl,rfl,gH.of (s2 o _ (s1 o _ ho)),ic rfl (oF hom),_,rfl,new,_,n,j,rfl,s2 n _ (s1 n _ hn),uO,by omega,?_⟩
  cases e:K01.ja old[m] new j with
  | none=>
   rw[e] at hk
   refine⟨_,rfl,_,rfl,xy (by rfl) (i_ ?_)⟩
   exact⟨j,acc,ps,_,_,rfl,s2,h2,pa,by omega,hj,hk⟩
  | some q=>
   rw[e] at hk
   simp only at hk
   obtain⟨Yk,Yl,hq3⟩:=K01.kG e
   have Lh:q<new.length:=(List.getElem?_eq_some_iff.mp Yl).1
   obtain⟨a1,ea1,Ym⟩:=Um.2 (m+1) (by omega)
   obtain⟨a0,ea0,Yn⟩:=Um.2 m (by omega)
   have Ym:=s2 a1 _ (Ym (aaz _))
   have Yn:=s2 a0 _ (Yn (aaz _))
   have Uo:H2 tb=some (.lst rows):=s2 tb _ h1
   refine⟨_,rfl,_,rfl,GR (by rfl) ?_⟩
   refine⟨_,rfl,_,rfl,_,_,rfl,rfl,tb,_,_,_,rfl,rfl,gH.of Uo,ic (j:=m+1) (by omega) ea1,_,rfl,_,_,rfl,rfl,a1,_,_,_,rfl,rfl,gH.of Ym,ic (j:=q+1) (by omega) (C1 (by omega)),_,_,rfl,rfl,
    _,rfl,_,rfl,tb,_,_,_,rfl,rfl,gH.of Uo,ic rfl ea0,_,rfl,a0,_,_,_,rfl,rfl,gH.of Yn,ic rfl (C1 (by omega)),rfl,_,rfl,?_⟩
   refine kF (fun hc=>?_) (fun hc=>?_)
   ·have hc:((K01.wF old new (m+1) (q+1):Nat):Int)+1=((K01.wF old new m j:Nat):Int):=by have:=aak hc;injection this
    have B4:K01.lcs (old.drop (m+1)) (new.drop (q+1))+1=K01.lcs (old[m]::old.drop (m+1)) (new.drop j):=by rw[←hd];unfold K01.wF at hc;omega
    rw[aar B4] at hk
    refine⟨_,rfl,.inl ⟨rfl,_,gH.of h2⟩,_,rfl,_,rfl,jA,fun t ht=>?_⟩
    have qi:=pa.length
    have ntp:pr≠t:=gh h2 ht
    refine⟨pr,ps,_,rfl,rfl,by rw[e_ ntp];exact h2,by have:sizeLine=2 ^ 24:=rfl;omega,?_⟩
    refine⟨_,rfl,_,_,rfl,rfl,q+1,acc++[(m,q)],ps++[.ref t],_,_,rfl,(s2.new ht).upd VB,b_,?_,by rw[W4];simp;omega,by omega,by rw[aaQ];exact hk⟩
    refine Paired.snoc (pa.keep fun a xs ha=>?_) ⟨t,rfl,?_⟩
    ·rw[e_ (i7 ha h2 (by intro z;cases z)),e_ (gh ha ht)];exact ha
    ·rw[e_ (abK ntp),b_]
     rfl
   ·have hc:¬((K01.wF old new (m+1) (q+1):Nat):Int)+1=((K01.wF old new m j:Nat):Int):=fun z=>hc (WM (aa6 V.int z))
    have B4:¬K01.lcs (old.drop (m+1)) (new.drop (q+1))+1=K01.lcs (old[m]::old.drop (m+1)) (new.drop j):=by rw[←hd];unfold K01.wF at hc;omega
    rw[aap B4] at hk
    exact⟨j,acc,ps,_,_,rfl,s2,h2,pa,by omega,hj,hk⟩
 ·rintro σ H2 ⟨j,acc,ps,v,w',rfl,s2,h2,pa,vY,hj,hk⟩
  rw[acj,K01.pN,aaK] at hk
  rw[hk] at pa
  exact⟨_,rfl,k pr H2 ps (s1.trans s2) Yj h2 pa⟩
end
end Kp
namespace PK
open PySem L2 PM
open Kp (lW iV)
theorem PR(a b c d:V):jF "lower_name" d (jF "upper_name" c (jF "text" b (jF "name" a [])))=MB a b c d:=by kernel_rfl
theorem PU(a b c d e:V):jF "other" e (jF "cuts" d (jF "puts" c (jF "file" b (jF "name" a []))))=MC a b c d e:=by kernel_rfl
noncomputable def NP(a l:Addr):List (Str×V):=[("ahead",.ref a),("lines",.ref l)]
theorem PV(a l:Addr):jF "lines" (.ref l) (jF "ahead" (.ref a) [])=NP a l:=by kernel_rfl
theorem jE(a l:Addr):(NP a l).lookup ("lines":Str)=some (V.ref l):=by kernel_rfl
theorem Ga(a l:Addr):(NP a l).lookup ("ahead":Str)=some (V.ref a):=by kernel_rfl
theorem Gb(a l:Addr):(NP a l).lookup ("is_ahead":Str)=none:=by kernel_rfl
theorem Ku(a l:Addr):(NP a l).lookup ("quarrelling":Str)=none:=by kernel_rfl
theorem PX(a l:Addr):(NP a l).lookup ("staying":Str)=none:=by kernel_rfl
theorem HZ(a:Addr):(jF ("ahead":Str) (.ref a) []).lookup ("ahead":Str)=some (V.ref a):=by kernel_rfl
def C5(A:Ad)(H:Hp)(p:Addr)(al row:List Ln):Prop:=∃dx ah l,H p=some (.ins A.hG dx (NP ah l))∧CZ H ah al∧qL A H l row
theorem C5.same{A:Ad}{H H':Hp}{p:Addr}{al row:List Ln}(x:C5 A H p al row)(s:gj H H'):C5 A H' p al row:=by
 obtain⟨dx,ah,l,h1,h2,h3⟩:=x
 exact⟨dx,ah,l,s _ _ h1,h2.same s,h3.same s⟩
section
variable{P:Program}{w:World}{K:Qqy}{mg:Qqx}{base:Heap}{A:Ad}
def SS(A:Ad):Sp:=fun vs H Q _=>∃(p dx:Addr)(a b c d:V),vs=[.ref p,a,b,c,d]∧H p=some (.ins A.hV dx [])∧∀H',(∀x,x≠p→H' x=H x)→H' p=some (.ins A.hV dx (MB a b c d))→Q .jm H'
theorem C6(T:Txt mg)(O:Ok K mg A):ij P w K mg base mr 1 A.mY A.q8 ["self","name","text","upper_name","lower_name"] (SS A):=by
 refine O.ua.f.qr wH fun jl A0 outer s H vs Q E hr h=>?_
 obtain⟨p,dx,a,b,c,d,rfl,hp,k⟩:=h
 refine⟨_,(de (lB (pv 0) (pv 1) rfl)
  (de (lB (pv 0) (pv 2) rfl)
  (de (lB (pv 0) (pv 3) rfl)
  (fR (lB (pv 0) (pv 4) rfl))))),?_⟩
 refine NJ ?_;intro _ _ _
 refine⟨_,rfl,_,rfl,p,A.hV,dx,_,rfl,hp,O.iP,O.hU,(by show 0<1000;decide),?_⟩
 refine⟨_,rfl,_,rfl,p,A.hV,dx,_,rfl,b_,O.iP,O.jM,(by show 1<1000;decide),?_⟩
 refine⟨_,rfl,_,rfl,p,A.hV,dx,_,rfl,b_,O.iP,O.iD,(by show 2<1000;decide),?_⟩
 refine⟨_,rfl,_,rfl,p,A.hV,dx,_,rfl,b_,O.iP,O.iE,(by show 3<1000;decide),?_⟩
 exact k _ (fun x hx=>by rw[e_ hx,e_ hx,e_ hx,e_ hx]) (Eq.trans b_ (aa6 (fun l=>some (HO.ins A.hV dx l)) (PR a b c d)))
def SU(A:Ad):Sp:=fun vs H Q _=>∃(p dx:Addr)(a b c d e:V),vs=[.ref p,a,b,c,d,e]∧H p=some (.ins A.hZ dx [])∧∀H',(∀x,x≠p→H' x=H x)→H' p=some (.ins A.hZ dx (MC a b c d e))→Q .jm H'
theorem pj(T:Txt mg)(O:Ok K mg A):ij P w K mg base mr 1 A.ml A.pT ["self","name","file","puts","cuts","other"] (SU A):=by
 refine O.lS.f.qr vg fun jl A0 outer s H vs Q E hr h=>?_
 obtain⟨p,dx,a,b,c,d,e,rfl,hp,k⟩:=h
 refine⟨_,(de (lB (pv 0) (pv 1) rfl)
  (de (lB (pv 0) (pv 2) rfl)
  (de (lB (pv 0) (pv 3) rfl)
  (de (lB (pv 0) (pv 4) rfl)
  (fR (lB (pv 0) (pv 5) rfl)))))),?_⟩
 refine Pc ?_;intro _ _ _ _
 refine⟨_,rfl,_,rfl,p,A.hZ,dx,_,rfl,hp,O.js,O.iX,(by show 0<1000;decide),?_⟩
 refine⟨_,rfl,_,rfl,p,A.hZ,dx,_,rfl,b_,O.js,O.kl,(by show 1<1000;decide),?_⟩
 refine⟨_,rfl,_,rfl,p,A.hZ,dx,_,rfl,b_,O.js,O.jO,(by show 2<1000;decide),?_⟩
 refine⟨_,rfl,_,rfl,p,A.hZ,dx,_,rfl,b_,O.js,O.jP,(by show 3<1000;decide),?_⟩
 refine⟨_,rfl,_,rfl,p,A.hZ,dx,_,rfl,b_,O.js,O.i0,(by show 4<1000;decide),?_⟩
 exact k _ (fun x hx=>by rw[e_ hx,e_ hx,e_ hx,e_ hx,e_ hx]) (Eq.trans b_ (aa6 (fun l=>some (HO.ins A.hZ dx l)) (PU a b c d e)))
def MJ(A:Ad):Sp:=fun vs H Q _=>∃(p dx a:Addr)(ps:List Pt)(f:Str),vs=[.ref p,.ref a,.str f]∧H p=some (.ins A.hG dx [])∧yD A H a ps∧Small ps∧
 ((gE ps f).map (·.nm)).Nodup∧qy (gE ps f)∧J6 (gE ps f)∧
 ∀(H':Hp),(∀b o,H b=some o→b≠p→H' b=some o)→C5 A H' p (gE ps f) (rowOf (Ah (gE ps f)) (k9 ps f))→Q .jm H'
theorem lA.off{H H':Hp}{p C dx:Addr}{fs:List (Str×V)}{v:V}{n:Nm}(x:lA H v n)(hp:H p=some (.ins C dx fs))(s:∀b o,H b=some o→b≠p→H' b=some o):lA H' v n:=by
 obtain⟨t,e,h⟩:=x
 exact⟨t,e,s _ _ h (i7 h hp (fun z=>by cases z))⟩
theorem FX.off{H H':Hp}{p C dx:Addr}{fs:List (Str×V)}{v:V}{n:Option Nm}(x:FX H v n)(hp:H p=some (.ins C dx fs))(s:∀b o,H b=some o→b≠p→H' b=some o):FX H' v n:=by
 cases n with
 | none=>exact x
 | some n=>exact lA.off x hp s
theorem nc.off{H H':Hp}{p C dx a:Addr}{fs:List (Str×V)}{l:Ln}(x:nc A H a l)(hp:H p=some (.ins C dx fs))(hf:fs.length<2)(s:∀b o,H b=some o→b≠p→H' b=some o):nc A H' a l:=by
 obtain⟨Yo,vn,vu,vl,h,h1,h2,h3⟩:=x
 have:a≠p:=fun z=>by
  rw[z,hp] at h
  have e:=aaA h
  injection e with _ _ e
  rw[e] at hf
  exact absurd hf (by unfold MB;simp)
 exact⟨Yo,vn,vu,vl,s _ _ h this,h1.off hp s,h2.off hp s,h3.off hp s⟩
theorem qL.off{H H':Hp}{p C dx a:Addr}{fs:List (Str×V)}{ls:List Ln}(x:qL A H a ls)(hp:H p=some (.ins C dx fs))(hf:fs.length<2)(s:∀b o,H b=some o→b≠p→H' b=some o):qL A H' a ls:=by
 obtain⟨as,h,q⟩:=x
 exact⟨as,s _ _ h (i7 h hp (fun z=>by cases z)),Paired.kC q fun _ _ z=>z.off hp hf s⟩
theorem Ab.off{H H':Hp}{p C dx a:Addr}{fs:List (Str×V)}{ns:List Nm}(x:Ab H a ns)(hp:H p=some (.ins C dx fs))(s:∀b o,H b=some o→b≠p→H' b=some o):Ab H' a ns:=by
 obtain⟨as,h,q⟩:=x
 exact⟨as,s _ _ h (i7 h hp (fun z=>by cases z)),Paired.kC q fun _ _ z=>z.off hp s⟩
theorem oz.off{H H':Hp}{p C dx a:Addr}{fs:List (Str×V)}{pt:Pt}(x:oz A H a pt)(hp:H p=some (.ins C dx fs))(hf:fs.length<2)(s:∀b o,H b=some o→b≠p→H' b=some o):oz A H' a pt:=by
 obtain⟨Yo,vf,pu,cu,vo,h,h1,h2,h3,h4⟩:=x
 have:a≠p:=fun z=>by
  rw[z,hp] at h
  have e:=aaA h
  injection e with _ _ e
  rw[e] at hf
  exact absurd hf (by unfold MC;simp)
 exact⟨Yo,vf,pu,cu,vo,s _ _ h this,h1,h2.off hp hf s,h3.off hp s,h4⟩
theorem yD.off{H H':Hp}{p C dx a:Addr}{fs:List (Str×V)}{ps:List Pt}(x:yD A H a ps)(hp:H p=some (.ins C dx fs))(hf:fs.length<2)(s:∀b o,H b=some o→b≠p→H' b=some o):yD A H' a ps:=by
 obtain⟨as,h,q⟩:=x
 exact⟨as,s _ _ h (i7 h hp (fun z=>by cases z)),Paired.kC q fun _ _ z=>z.off hp hf s⟩
theorem CZ.off{H H':Hp}{p C dx a:Addr}{fs:List (Str×V)}{ls:List Ln}(x:CZ H a ls)(hp:H p=some (.ins C dx fs))(s:∀b o,H b=some o→b≠p→H' b=some o):CZ H' a ls:=by
 obtain⟨kvs,e1,e2⟩:=x
 refine⟨kvs,s _ _ e1 (i7 e1 hp (fun z=>by cases z)),fun n hn=>?_⟩
 obtain⟨b,dk,z1,z2,z3⟩:=e2 n hn
 exact⟨b,dk,z1,s _ _ z2 (i7 z2 hp (fun z=>by cases z)),z3⟩
theorem Bc(T:Txt mg)(O:Ok K mg A):ij P w K mg base mr 3 A.mq A.p0 ["self","patches","file"] (MJ A):=by
 have Fc:=@C0 P w K mg base A T O
 have sW:=@vN P w K mg base A T O
 have xh:=@vO P w K mg base A T O
 have Li:=@HY P w K mg base A T O
 refine O.sG.f.qr vj fun jl A0 outer s H vs Q E hr h=>?_
 obtain⟨p,dx,a,ps,f,rfl,hp,ha,sm,nd,cl,tp,q⟩:=h
 have Up:uN (gE ps f).length:=XI (qM ps f) sm.iB
 have Br:=kQ ps f
 refine⟨_,(de (lB (pv 0) (o_ O.BN Fc hr (a_ (o_ O.wU sW hr (a_ (pv 1) (a_ (pv 2) d_))) d_)) rfl)
   (fR (lB (pv 0) (o_ O.Kg Li hr (a_ (o_ O.sE xh hr (a_ (pv 1) (a_ (pv 2) d_))) (a_ (gC (pv 0) rfl) d_))) rfl))),?_⟩
 refine LD ?_;intro _
 refine⟨_,rfl,_,rfl,a,ps,f,rfl,ha,sm,fun l1 H1 s1 VC Uq=>?_⟩
 refine⟨l1,_,rfl,Uq,Up,nd,cl,tp,fun ah H2 s2 VD Ur=>?_⟩
 have Yp:gj H H2:=s1.trans s2
 have AZ:=Yp p _ hp
 refine⟨_,rfl,p,A.hG,dx,_,rfl,AZ,O.i3,O.jy,(by show 0<1000;decide),?_⟩
 have s3:∀b o,H2 b=some o→b≠p→(upd H2 p (.ins A.hG dx (jF "ahead" (.ref ah) []))) b=some o:=fun b o e n=>by rw[e_ n];exact e
 have ha3:=(ha.same Yp).off AZ (by decide) s3
 have Us:=Ur.off AZ s3
 refine⟨_,rfl,_,rfl,a,ps,f,rfl,ha3,sm,fun st H4 s4 VE Ut=>?_⟩
 have Ua:H4 p=some (.ins A.hG dx (jF "ahead" (.ref ah) [])):=s4 p _ b_
 refine⟨_,rfl,p,A.hG,dx,_,_,rfl,Ua,O.i3,O.jy,HZ ah,st,ah,k9 ps f,gE ps f,rfl,Ut,Us.same s4,XI Br.length_le Up,(Br.map _).nodup nd,fun l hl=>XE (Br.subset hl),tp,fun l H5 s5 VF Uu=>?_⟩
 have Yq:=s5 p _ Ua
 refine⟨_,rfl,p,A.hG,dx,_,rfl,Yq,O.i3,O.ia,(by show 1<1000;decide),?_⟩
 have s6:∀b o,H5 b=some o→b≠p→(upd H5 p (.ins A.hG dx (jF "lines" (.ref l) (jF "ahead" (.ref ah) [])))) b=some o:=fun b o e n=>by rw[e_ n];exact e
 refine q _ (fun b o hb nb=>?_) ⟨dx,ah,l,Eq.trans b_ (aa6 (fun l=>some (HO.ins A.hG dx l)) (PV ah l)),?_,?_⟩
 ·rw[e_ nb]
  refine s5 b o (s4 b o ?_)
  rw[e_ nb]
  exact Yp b o hb
 ·exact((Us.same s4).same s5).off Yq s6
 ·exact Uu.off Yq (by show 1<2;decide) s6
open Classical in
def WT(A:Ad):Sp:=fun vs H Q _=>∃(p:Addr)(al row:List Ln)(i j:Nat)(a b:Ln),vs=[.ref p,.int i,.int j]∧C5 A H p al row∧row[i]?=some a∧row[j]?=some b∧b.nm∈al.map (·.nm)∧Q (.bl (decide (Ah al a.nm b.nm))) H
open Classical in
theorem sP(T:Txt mg)(O:Ok K mg A):ij P w K mg base mr 1 A.p3 A.p5 ["self","first","second"] (WT A):=by
 refine O.lT.f.qr vk fun jl A0 outer s H vs Q E hr h=>?_
 obtain⟨p,al,row,i,j,x,y,rfl,⟨dx,ah,l,h1,⟨kh,h2,h3⟩,⟨as,h4,h5⟩⟩,hi,hj,hy,q⟩:=h
 obtain⟨b,hb,dxb,vn,vu,vl,g1,⟨t,rfl,g2⟩,g3,g4⟩:=j6 h5 hi
 obtain⟨c,hc,dxc,vn',vu',vl',k1,⟨t',rfl,k2⟩,k3,k4⟩:=j6 h5 hj
 obtain⟨e,dk,z1,z2,z3⟩:=h3 y.nm hy
 have VG:(as.map V.ref)[i]?=some (.ref b):=by rw[Z4,hb];rfl
 have hcj:(as.map V.ref)[j]?=some (.ref c):=by rw[Z4,hc];rfl
 refine⟨_,(fR (hE (OI (nR (by exact iG hr) (gC (pE (gC (pv 0) rfl) (pv 1)) rfl) (zz hr (gC (pv 0) rfl) (gC (pE (gC (pv 0) rfl) (pv 2)) rfl)))))),?_⟩
 refine⟨_,rfl,p,A.hG,dx,_,_,rfl,h1,O.i3,O.ia,jE ah l,_,rfl,l,_,_,_,rfl,rfl,gH.of h4,ic rfl VG,b,A.hV,dxb,_,_,rfl,g1,O.iP,O.hU,i5,?_⟩
 refine⟨_,rfl,p,A.hG,dx,_,_,rfl,h1,O.i3,O.jy,Ga ah l,_,rfl,p,A.hG,dx,_,_,rfl,h1,O.i3,O.ia,jE ah l,_,rfl,l,_,_,_,rfl,rfl,gH.of h4,ic rfl hcj,c,A.hV,dxc,_,_,rfl,k1,O.iP,O.hU,i5,ah,.ref e,rfl,?_,e,_,rfl,iZ.t (k:=nk x.nm) z2 g2,?_⟩
 ·have:=iZ.t (k:=nk y.nm) h2 k2
  rw[z1] at this
  exact this
 ·have e2:(iI dk (nk x.nm)).isSome=decide (Ah al x.nm y.nm):=by
   rw[abF,abx];exact z3 x.nm
  rw[e2]
  exact q
def WU(A:Ad):Sp:=fun vs H Q _=>∃(p:Addr)(al row:List Ln),vs=[.ref p]∧C5 A H p al row∧(∀l∈row,l.nm∈al.map (·.nm))∧uN row.length∧∀r H' vs,gj H H'→H r=none→H' r=some (.lst vs)→iV H' (jH (Ah al) row) vs→Q (.ref r) H'
open Classical in
noncomputable def wZ(lt:Nm→Nm→Prop)(row:List Ln)(i m:Nat):List (Nat×Nat):=((List.range' (i+1) m).filter fun j=>decide (¬ltAt lt row i j)).map fun j=>(i,j)
noncomputable def E1(lt:Nm→Nm→Prop)(row:List Ln)(i:Nat):List (Nat×Nat):=(List.range i).flatMap fun i=>wZ lt row i (row.length-(i+1))
theorem E2(lt:Nm→Nm→Prop)(row:List Ln):E1 lt row row.length=jH lt row:=rfl
theorem BZ(lt:Nm→Nm→Prop)(row:List Ln)(i:Nat):E1 lt row (i+1)=E1 lt row i++wZ lt row i (row.length-(i+1)):=by
 unfold E1
 rw[abY,abe,aaH,abN,aaK]
theorem H_(lt:Nm→Nm→Prop)(row:List Ln)(i m:Nat)(h:¬ltAt lt row i (i+1+m)):wZ lt row i (m+1)=wZ lt row i m++[(i,i+1+m)]:=by
 unfold wZ
 rw[show m+1=m+1 from rfl,←List.range'_append_1 (s:=i+1) (m:=m) (n:=1),aaB,aat]
 congr 1
 show List.map _ (List.filter _ [i+1+m])=_
 rw[aaa (by simpa using h)]
 rfl
theorem Gd(lt:Nm→Nm→Prop)(row:List Ln)(i m:Nat)(h:ltAt lt row i (i+1+m)):wZ lt row i (m+1)=wZ lt row i m:=by
 unfold wZ
 rw[←List.range'_append_1 (s:=i+1) (m:=m) (n:=1),aaB,aat]
 show _++List.map _ (List.filter _ [i+1+m])=_
 rw[aad (by simpa using h)]
 simp
theorem E3(lt:Nm→Nm→Prop)(row:List Ln)(i m:Nat):(wZ lt row i m).length≤m:=by
 unfold wZ
 rw[TU]
 exact XI (aaE _ _) (by rw[List.length_range'];exact WL _)
theorem Ag(lt:Nm→Nm→Prop)(row:List Ln):∀i,(E1 lt row i).length≤i*row.length
 | 0=>aaz _
 | i+1=>by
  rw[BZ,W4,Nat.succ_mul]
  have:=Ag lt row i
  have:=E3 lt row i (row.length-(i+1))
  omega
open Classical in
theorem sQ(T:Txt mg)(O:Ok K mg A):ij P w K mg base mr 2 A.nA A.nB ["self"] (WU A):=by
 have j1:=@sP P w K mg base A T O
 refine O.jL.f.qr jJ fun jl A0 outer s H vs Q E hr h=>?_
 obtain⟨p,al,row,rfl,S,Of,jA,q⟩:=h
 obtain⟨dx,ah,l,h1,h2,⟨as,h4,h5⟩⟩:=id S
 have hlen:=aaj h5
 have v_:row.length≤4000:=jA
 have sz:sizeLine=16777216:=aaw
 refine⟨_,(de (kW 1 jJ (iO d_))
   (de (il aam rfl (jh rfl T.jj (a_ (gs gk (by rfl) T.iW aah (a_ (gC (pv 0) rfl) d_)) d_)) (qY 2 jJ) (fR (il aam rfl (pJ rfl T.jj (a_ (gr iC (pv 2) gc) (a_ (gs gk (by rfl) T.iW aah (a_ (gC (pv 0) rfl) d_)) d_))) (qY 3 jJ) (fR (ik (jT (kr (uZ (pv 0) O.i3 O.lT j1 hr (a_ (pv 2) (a_ (pv 3) d_))))) (fR (hX (nP aaI aaM aaN jC (pv 1) (a_ (rM (a_ (pv 2) (a_ (pv 3) d_))) d_)))) g_)))))
   (fR (hE (pv 1))))),?_⟩
 refine DO ?_;intro _ _
 refine⟨L2.jA,fun r pF=>?_⟩
 have s1:gj H (upd H r (.lst [])):=(gj.refl H).new pF
 have el:((as.map V.ref).length:Int)=(row.length:Int):=by rw[TU,hlen]
 refine⟨_,rfl,p,A.hG,dx,_,_,rfl,s1 _ _ h1,O.i3,O.ia,jE ah l,l,_,rfl,.inl (gH.of (s1 _ _ h4)),_,rfl,by omega,by omega,?_⟩
 rw[el,aa2]
 let Jv:=fun(i:Nat) (σ:St) (H2:Hp)=>∃(v2 v3:Option V)(vs:List V),σ=[rr p,rr r,v2,v3]∧gj H H2∧H2 r=some (.lst vs)∧iV H2 (E1 (Ah al) row i) vs
 refine jB Jv ⟨none,none,[],rfl,s1,b_,.nil⟩ ?_ ?_
 ·rintro i σ H2 hi ⟨v2,v3,vs,rfl,s2,k1,k2⟩
  rw[show(0:Int)+(i:Int)=(i:Int) by omega]
  refine⟨_,rfl,_,_,rfl,rfl,_,rfl,p,A.hG,dx,_,_,rfl,s2 _ _ h1,O.i3,O.ia,jE ah l,l,_,rfl,.inl (gH.of (s2 _ _ h4)),_,_,rfl,⟨by omega,by omega,by omega,by omega⟩,?_⟩
  rw[el,show((row.length:Int)-((i:Int)+1)).toNat=row.length-(i+1) by omega]
  let Jv:=fun(m:Nat) (σ:St) (H3:Hp)=>∃(v3:Option V)(vs:List V),σ=[rr p,rr r,ri i,v3]∧gj H H3∧H3 r=some (.lst vs)∧iV H3 (E1 (Ah al) row i++wZ (Ah al) row i m) vs
  refine jB Jv ⟨v3,vs,rfl,s2,k1,by unfold wZ;simpa using k2⟩ ?_ ?_
  ·rintro m σ H3 hm ⟨v3,vs,rfl,s3,k1,k2⟩
   rw[show(i:Int)+1+(m:Int)=((i+1+m:Nat):Int) by omega]
   have hj:i+1+m<row.length:=by omega
   have ei:row[i]?=some row[i]:=TZ hi
   have ej:row[i+1+m]?=some row[i+1+m]:=TZ hj
   have uO:vs.length=(E1 (Ah al) row i++wZ (Ah al) row i m).length:=(aaj k2).symm
   have Lj:=Ag (Ah al) row i
   have IL:=E3 (Ah al) row i m
   have hb3:i*row.length≤4000*4000:=Nat.mul_le_mul (by omega) v_
   rw[W4] at uO
   refine⟨_,rfl,p,dx,_,rfl,s3 _ _ h1,Gb ah l,_,rfl,_,rfl,p,al,row,i,i+1+m,_,_,rfl,S.same s3,ei,ej,Of _ (List.getElem_mem hj),_,rfl,?_⟩
   have jQ:ltAt (Ah al) row i (i+1+m)↔Ah al row[i].nm row[i+1+m].nm:=by
    constructor
    ·rintro⟨a,b,ha,hb,z⟩
     rw[ei] at ha;rw[ej] at hb;cases ha;cases hb
     exact z
    ·exact fun z=>⟨_,_,ei,ej,z⟩
   by_cases hc:Ah al row[i].nm row[i+1+m].nm
   ·rw[WM hc]
    exact i_ ⟨_,vs,rfl,s3,k1,by rw[Gd _ _ _ _ (jQ.mpr hc)];exact k2⟩
   ·rw[Z6 hc]
    refine kD ?_
    refine⟨_,rfl,.inl ⟨rfl,_,gH.of k1⟩,_,rfl,_,rfl,L2.jA,fun t ht=>?_⟩
    have ntr:r≠t:=gh k1 ht
    refine⟨r,vs,_,rfl,rfl,by rw[e_ ntr];exact k1,by omega,?_⟩
    refine⟨_,vs++[.ref t],rfl,(s3.new ht).upd pF,b_,?_⟩
    rw[H_ _ _ _ _ (fun z=>hc (jQ.mp z)),←aaQ]
    refine iA (Paired.kC k2 fun a v ⟨b,e,hb⟩=>⟨b,e,?_⟩) ⟨t,rfl,?_⟩
    ·rw[e_ (i7 hb k1 (by intro z;cases z)),e_ (gh hb ht)];exact hb
    ·rw[e_ ntr.symm,b_]
  ·rintro σ H3 ⟨v3,vs,rfl,s3,k1,k2⟩
   exact⟨_,_,vs,rfl,s3,k1,by rw[BZ];exact k2⟩
 ·rintro σ H2 ⟨v2,v3,vs,rfl,s2,k1,k2⟩
  exact⟨_,rfl,q r H2 vs s2 pF k1 (by rw[E2] at k2;exact k2)⟩
theorem FX.upd{H:Hp}{v:V}{n:Option Nm}{x:Addr}{o o':HO}(h:FX H v n)(hx:H x=some o')(ht:∀xs,o'≠.tup xs):FX (L2.upd H x o) v n:=by
 cases n with
 | none=>exact h
 | some n=>exact lA.upd h hx ht
theorem nc.upd{A:Ad}{H:Hp}{a:Addr}{l:Ln}{x:Addr}{o o':HO}(h:nc A H a l)(hx:H x=some o')(ht:∀xs,o'≠.tup xs)(hi:∀C dx fs,o'≠.ins C dx fs):nc A (L2.upd H x o) a l:=by
 obtain⟨dx,vn,vu,vl,h0,h1,h2,h3⟩:=h
 exact⟨dx,vn,vu,vl,by rw[e_ (i7 h0 hx (fun z=>hi _ _ _ z.symm))];exact h0,h1.upd hx ht,h2.upd hx ht,h3.upd hx ht⟩
theorem Ai{A:Ad}{H:Hp}{as:List Addr}{ls:List Ln}(p:Paired (nc A H) as ls){i:Nat}{l:Ln}(h:ls[i]?=some l):∃b,(as.map V.ref)[i]?=some (.ref b)∧nc A H b l:=by
 obtain⟨b,hb,z⟩:=j6 p h
 exact⟨b,by rw[Z4,hb];rfl,z⟩
noncomputable def Be(p:Pt)(k:Nat):List (Option Nm):=p.j9.map some++(p.iB.take k).flatMap fun l=>[l.up,l.lo]
theorem named_eq(p:Pt):named p=(Be p p.iB.length).filterMap id:=by
 unfold named Be
 rw[aaq,abH,List.filterMap_map]
 congr 1
 ·induction p.j9 with
  | nil=>rfl
  | cons x r ih=>rw[abq];show _=x::_;rw[←ih]
 ·induction p.iB with
  | nil=>rfl
  | cons x r ih=>
   rw[aaH,aaH,abH,ih]
   congr 1
   cases x.up<;>cases x.lo<;>rfl
theorem Aj(p:Pt)(k:Nat):(Be p k).length≤p.j9.length+2*k:=by
 unfold Be
 rw[W4,TU]
 have:∀(ls:List Ln),(ls.flatMap fun l=>[l.up,l.lo]).length=2*ls.length:=fun ls=>by
  induction ls with
  | nil=>rfl
  | cons x r ih=>rw[aaH,W4,ih];simp only [aac,List.length_nil];omega
 rw[this,aay]
 omega
def MK(A:Ad):Sp:=fun vs H Q _=>∃(a:Addr)(p:Pt),vs=[.ref a]∧oz A H a p∧uN p.iB.length∧uN p.j9.length∧∀r H',gj H H'→H r=none→Ab H' r (named p)→Q (.ref r) H'
theorem vR(T:Txt mg)(O:Ok K mg A):ij P w K mg base mr 1 A.pU A.pV ["patch"] (MK A):=by
 refine O.sD.f.qr kA fun jl A0 outer s H vs Q E hr h=>?_
 obtain⟨a,p,rfl,⟨dx,vf,pu,cu,vo,g1,g2,⟨as,g3,T3⟩,⟨cs,g4,Rp⟩,g5⟩,Gw,Fd,q⟩:=h
 have hlen:=aaj T3
 have IT:=aaj Rp
 have Og:p.iB.length≤4000:=Gw
 have Lk:p.j9.length≤4000:=Fd
 have sz:sizeLine=16777216:=aaw
 refine⟨_,(de (kW 1 kA (pK uY (by rfl) T.sj abm (a_ (gC (pv 0) rfl) d_)))
   (de (il aam rfl (ir (gC (pv 0) rfl)) (qY 2 kA) (de (hX (nP aaI aaM aaN jC (pv 1) (a_ (gC (pv 2) rfl) d_)))
   (fR (hX (nP aaI aaM aaN jC (pv 1) (a_ (gC (pv 2) rfl) d_))))))
   (fR (hE (zm pQ (f_ kR).names [3] rfl (ir (pv 1)) rfl (by decide+kernel) (fun _ _ _ _=>(iw (i:=3) kA.nd rfl (Or.inl rfl))) (fun _ _ _ _=>⟨_,mL (i9 (sZ (pv 3))),by(try simp only [ku]);rfl⟩) (fun _ _ _ _=>AX (pv 3))))))),?_⟩
 refine DO ?_;intro _ _
 refine⟨_,rfl,a,A.hZ,dx,_,_,rfl,g1,O.js,O.jP,ES,cu,cs,rfl,.inl (gH.of g4),fun l hl=>?_⟩
 have s1:gj H (upd H l (.lst cs)):=(gj.refl H).new hl
 dsimp only [mB];refine JM ?_;intro _
 let Jv:=fun(i:Nat) (σ:St) (H2:Hp)=>∃(v:Option V)(xs:List V),σ=[rr a,rr l,v,none]∧gj H H2∧H2 l=some (.lst xs)∧Paired (FX H) xs (Be p i)
 refine⟨_,rfl,a,A.hZ,dx,_,_,rfl,s1 _ _ g1,O.js,O.jO,ER,pu,rfl,⟨_,gH.of (s1 _ _ g3)⟩,iM (K:=K) (a:=pu) (xs:=as.map V.ref) Jv
  ⟨none,cs,rfl,s1,b_,?_⟩ (by rintro _ _ _ _ ⟨_,_,_,s2,_⟩;exact gH.of (s2 _ _ g3)) ?_ ?_⟩
 ·unfold Be
  rw[abE,abN,aaK]
  clear IT Lk Fd q g4 s1
  generalize p.j9=ms at Rp
  induction Rp with
  | nil=>exact .nil
  | cons f t ih=>exact .cons f ih
 ·rintro i v σ H2 hx ⟨v0,xs,rfl,s2,h1,h2⟩
  obtain⟨b,hb,rfl⟩:=ke hx
  obtain⟨ln,uO,RA,vn,vu,vl,k1,k2,k3,k4⟩:=iz T3 hb
  have hi:i<p.iB.length:=(List.getElem?_eq_some_iff.mp uO).1
  have VH:xs.length≤p.j9.length+2*i:=by rw[aaj h2];exact Aj p i
  have e:Be p (i+1)=Be p i++[ln.up]++[ln.lo]:=by
   unfold Be
   rw[take_snoc uO,abe,aaH,abN,aaQ,aaQ]
   rfl
  refine⟨_,rfl,.inl ⟨rfl,_,gH.of h1⟩,_,rfl,b,A.hV,RA,_,_,rfl,s2 _ _ k1,O.iP,O.iD,FY,l,_,_,rfl,rfl,h1,by omega,?_⟩
  have s3:gj H (upd H2 l (.lst (xs++[vu]))):=s2.upd hl
  refine⟨_,rfl,.inl ⟨rfl,_,gH.of b_⟩,_,rfl,b,A.hV,RA,_,_,rfl,s3 _ _ k1,O.iP,O.iE,FZ,l,_,_,rfl,rfl,b_,by rw[W4];show xs.length+1<_;omega,?_⟩
  refine⟨_,_,rfl,s3.upd hl,b_,?_⟩
  rw[e]
  exact iA (iA h2 k3) k4
 ·rintro σ H2 ⟨v0,xs,rfl,s2,h1,h2⟩
  have e0:(as.map V.ref).length=p.iB.length:=by rw[TU,hlen]
  rw[e0] at h2
  have VH:xs.length≤p.j9.length+2*p.iB.length:=by rw[aaj h2];exact Aj p _
  refine⟨_,rfl,l,rfl,⟨_,gH.of h1⟩,kO (K:=K) (a:=l) (xs:=xs) (by omega) (fun i ys σ H4=>∃(v3:Option V),σ=[rr a,rr l,v0,v3]∧H4=H2∧ys.length≤i∧Paired (lA H) ys (((Be p p.iB.length).take i).filterMap id))
   ⟨none,rfl,rfl,WL _,.nil⟩ (by rintro _ _ _ _ _ ⟨_,_,e,e3,_⟩;subst e;exact⟨gH.of h1,e3⟩) ?_ ?_⟩
  ·rintro i v ys σ H4 hx ⟨v3,rfl,rfl,e3,h6⟩
   obtain⟨o,ho,hv⟩:=iz h2 hx
   refine⟨_,rfl,_,rfl,?_⟩
   rw[take_snoc ho,abH]
   cases o with
   | none=>
    rw[show v=V.jm from hv]
    exact⟨_,rfl,rfl,by omega,by simpa using h6⟩
   | some m=>
    obtain⟨t,rfl,ht⟩:=(show lA H v m from hv)
    exact⟨_,rfl,_,rfl,rfl,NM,iA h6 ⟨t,rfl,ht⟩⟩
  ·rintro ys σ H4 ⟨v3,rfl,rfl,e3,h6⟩ r pF
   rw[aaj h2,aaq,←named_eq] at h6
   have s5:=s2.new (o:=.lst ys) pF
   exact q r _ s5 (s2.free pF) ⟨ys,b_,Paired.kC h6 fun _ _ z=>z.same s5⟩
def PY(A:Ad):Sp:=fun vs H Q _=>∃(a:Addr)(p:Pt),vs=[.ref a]∧oz A H a p∧uN p.iB.length∧uN p.j9.length∧∀r H',gj H H'→H r=none→H' r=some (.lst (gp (iJ p)))→Q (.ref r) H'
theorem B0(p:Pt):(named p).length≤p.j9.length+2*p.iB.length:=by
 rw[named_eq]
 exact XI (ab0 _ _) (Aj p _)
theorem sR(T:Txt mg)(O:Ok K mg A):ij P w K mg base mr 2 A.nv A.nz ["patch"] (PY A):=by
 have xi:=@vR P w K mg base A T O
 refine O.o6.f.qr kJ fun jl A0 outer s H vs Q E hr h=>?_
 obtain⟨a,p,rfl,pa,Gw,Fd,q⟩:=h
 obtain⟨dx,vf,pu,cu,vo,g1,g2,g3,g4,g5⟩:=id pa
 have Og:p.iB.length≤4000:=Gw
 have Lk:p.j9.length≤4000:=Fd
 have sz:sizeLine=16777216:=aaw
 have QI:=B0 p
 refine⟨_,(de (uk (j:=1) nu (f_ jS).names [2] kJ.nd rfl rfl rfl (ir (o_ O.sD xi hr (a_ (pv 0) d_))) rfl (by decide+kernel) (fun _ _ _ _=>(iw (i:=2) kJ.nd rfl (Or.inl rfl))) (fun _ _ _ _=>⟨_,mL (ib D8 (j5 o9 (pv 2) gc (fun _ _=>rfl)) (gC (pv 0) rfl) (ip _)),by(try simp only [ku]);rfl⟩) (fun _ _ _ _=>AX (j5 o9 (pv 2) gc (fun _ _=>rfl))))
   (de (ik (i9 (sZ (gC (pv 0) rfl))) (fR (hX (nP aaI aaM aaN jC (pv 1) (a_ (gC (pv 0) rfl) d_)))) g_)
   (fR (hE (pv 1))))),?_⟩
 refine DO ?_;intro _ _
 refine⟨_,rfl,a,p,rfl,pa,Gw,Fd,fun n H1 s1 hn0 ⟨ns,hn1,Qq⟩=>?_⟩
 have Yr:=aaj Qq
 let Jv:=fun(i:Nat) (ys:List V) (σ:St) (H4:Hp)=>∃(v2:Option V)(zs:List Str),σ=[rr a,none,v2]∧H4=H1∧ys=gp zs∧zs.length≤i∧zs=(((named p).take i).filter fun n=>n.1≠p.nm).map (·.1)
 refine⟨n,rfl,⟨_,gH.of hn1⟩,kO (K:=K) (a:=n) (xs:=ns) (by omega) Jv
  ⟨none,[],rfl,rfl,rfl,WL _,rfl⟩ (by rintro _ _ _ _ _ ⟨_,zs,_,e,e2,e3,_⟩;subst e e2;exact⟨gH.of hn1,by rw[TU];exact e3⟩) ?_ ?_⟩
 ·rintro i v ys σ H4 hx ⟨v2,zs,rfl,rfl,rfl,e3,e4⟩
  obtain⟨m,hm,t,rfl,ht⟩:=iz Qq hx
  have ht0:Fo ((nk m).map kV) 0=some (V.str m.1):=ic (j:=0) rfl rfl
  refine⟨_,rfl,t,_,0,_,rfl,rfl,rG.of ht,ht0,_,rfl,a,A.hZ,dx,_,_,rfl,s1 _ _ g1,O.js,O.iX,sJ,rfl,_,rfl,?_⟩
  have ed:decide (V.str m.1=V.str p.nm)=decide (m.1=p.nm):=by
   by_cases e:m.1=p.nm
   ·rw[WM e,WM (aa6 V.str e)]
   ·rw[Z6 e,Z6 fun z=>e (V.str.inj z)]
  rw[ed]
  subst e4
  by_cases e:m.1=p.nm
  ·rw[WM e]
   refine i_ ⟨_,_,rfl,rfl,rfl,by omega,?_⟩
   rw[take_snoc hm,aaB,aad (by simpa using e)]
   simp
  ·rw[Z6 e]
   refine kD ⟨_,rfl,t,_,0,_,rfl,rfl,rG.of ht,ht0,_,_,rfl,rfl,jv _ _,by rw[W4];show _+1≤_;omega,?_⟩
   rw[take_snoc hm,aaB,aaa (by simpa using e)]
   simp
 ·rintro ys σ H4 ⟨v2,zs,rfl,rfl,rfl,e3,e4⟩ r pF
  rw[Yr,aaq] at e4
  have s5:=s1.new (o:=.lst (gp zs)) pF
  refine⟨_,rfl,a,A.hZ,dx,_,_,rfl,s5 _ _ g1,O.js,O.i0,tD,_,rfl,?_⟩
  unfold iJ at q
  rw[←e4] at q
  cases ho:p.other with
  | none=>
   rw[ho] at g5 q
   rw[show vo=V.jm from g5]
   exact⟨_,rfl,q r _ s5 (s1.free pF) (by rw[b_];simp)⟩
  | some x=>
   rw[ho] at g5 q
   rw[show vo=V.str x from g5] at g1 ⊢
   refine⟨_,rfl,.inl ⟨rfl,_,gH.of b_⟩,_,rfl,a,A.hZ,dx,_,_,rfl,s5 _ _ g1,O.js,O.i0,tD,r,_,_,rfl,rfl,b_,by rw[TU];omega,?_⟩
   exact⟨_,rfl,q r _ (s5.upd (s1.free pF)) (s1.free pF) (by rw[b_];show _=some (HO.lst (gp (zs++[x])));rw[←jv])⟩
def SV(H:Hp)(a:Addr)(kn:Nat→Option Nm):Prop:=∃kvs:List (Key×V),H a=some (.dK kvs)∧∀s:Nat,match kn s with|some m=>∃v,iI kvs (Sum.inl (s:Int))=some v∧lA H v m|none=>iI kvs (Sum.inl (s:Int))=none
def WV:Sp:=fun vs H Q _=>∃(a:Addr)(n:Nat)(kn:Nat→Option Nm),vs=[.ref a,.int n]∧SV H a kn∧n≤4000∧∀p H' xs,gj H H'→H p=none→H' p=some (.lst xs)→xs.length=n→(∀i v,xs[i]?=some v→FX H v (Mt kn (n-1-i) i))→Q (.ref p) H'
theorem Ak(T:Txt mg)(O:Ok K mg A):ij P w K mg base mr 1 A.tX A.tY ["kept_names","size"] WV:=by
 refine O.yj.f.qr og fun jl A0 outer s H vs Q E hr h=>?_
 obtain⟨a,n,kn,rfl,⟨kvs,h1,h2⟩,hn,q⟩:=h
 have sz:sizeLine=16777216:=aaw
 refine⟨_,(de (kW 2 og (gr Ck (iO (a_ uf d_)) (pv 1)))
   (de (il aam rfl (tf rfl T.jj (a_ (gr o8 (pv 1) gc) (a_ (rJ nO gc) (a_ (rJ nO gc) d_)))) (qY 3 og) (fR (y0 (Jx (by exact iG hr) (pv 0) (gr iC (pv 3) gc) (pE (pv 2) (gr iC (pv 3) gc)) ⟨rfl,rfl,rfl,rfl⟩) (yZ (pv 2) (pv 3) set_list))))
   (fR (hE (pv 2))))),?_⟩
 refine DO ?_;intro _ _
 refine⟨L2.jA,fun l hl=>?_⟩
 refine⟨_,rfl,l,_,_,rfl,rfl,b_,by omega,by omega,by simp;omega,fun p hp=>?_⟩
 have qi:p≠l:=fun z=>by rw[z,b_] at hp;cases hp
 have Gv:H p=none:=by rw[e_ qi] at hp;exact hp
 have e0:(List.replicate (n:Int).toNat [V.jm]).flatten=List.replicate n V.jm:=by
  rw[aa2]
  clear q hn
  induction n with
  | zero=>rfl
  | succ n ih=>rw[abd,abU,ih,abd];rfl
 rw[e0]
 have s1:gj H (upd (upd H l (.lst [V.jm])) p (.lst (List.replicate n V.jm))):=((gj.refl H).upd hl).upd Gv
 refine⟨_,rfl,_,_,rfl,rfl,_,rfl,_,rfl,_,_,rfl,⟨by omega,by omega,by omega,by omega⟩,?_⟩
 rw[show((n:Int)-2 - -1).toNat=n-1 by omega]
 let Jv:=fun(m:Nat) (σ:St) (H2:Hp)=>∃(v:Option V)(xs:List V),σ=[rr a,ri n,rr p,v]∧gj H H2∧H2 p=some (.lst xs)∧xs.length=n∧∀i v,xs[i]?=some v→n-1≤i+m→FX H v (Mt kn (n-1-i) i)
 refine ql Jv ⟨none,_,rfl,s1,b_,by simp,fun i v hv hi=>?_⟩ ?_ ?_
 ·have jQ:i<n:=by have:=(List.getElem?_eq_some_iff.mp hv).1;simpa using this
  have:v=V.jm:=by
   have:=WI hv
   exact List.eq_of_mem_replicate this
  rw[this,show n-1-i=0 by omega]
  exact rfl
 ·rintro m σ H2 hm ⟨v0,xs,rfl,s2,k1,k2,k3⟩
  obtain⟨j,hj⟩:∃j,j+m+2=n:=⟨n-2-m,by omega⟩
  rw[show(n:Int)-2+(m:Int) * -1=(j:Int) by omega]
  have hx:xs[j+1]?=some xs[j+1]:=TZ (by omega)
  refine⟨_,rfl,a,rfl,.inl ⟨_,.inl (s2 _ _ h1)⟩,_,rfl,_,_,rfl,rfl,_,rfl,_,rfl,_,_,rfl,rfl,p,_,_,_,rfl,rfl,gH.of k1,ic (j:=j+1) (by omega) hx,_,iZ.k (k:=Sum.inl ((j:Int)+1)) (s2 _ _ h1),?_⟩
  refine⟨_,rfl,_,rfl,p,_,_,j,rfl,rfl,k1,zw rfl (by omega),?_⟩
  refine⟨_,_,rfl,s2.upd Gv,b_,by rw[acn];exact k2,fun i v hv hi=>?_⟩
  by_cases e:i=j
  ·subst e
   rw[abb (by omega)] at hv
   have hv:=aaA hv
   rw[←hv,show n-1-i=(n-1-(i+1))+1 by omega]
   unfold Mt
   have h3:=h2 (i+1)
   rw[show((i+1:Nat):Int)=(i:Int)+1 by omega] at h3
   cases hk:kn (i+1) with
   | none=>
    rw[hk] at h3
    rw[h3]
    exact k3 (i+1) _ hx (by omega)
   | some mm=>
    rw[hk] at h3
    obtain⟨u,z1,z2⟩:=h3
    rw[z1]
    exact z2
  ·rw[abi (fun z=>e z.symm)] at hv
   exact k3 i v hv (by omega)
 ·rintro σ H2 ⟨v0,xs,rfl,s2,k1,k2,k3⟩
  exact⟨_,rfl,q p H2 xs s2 Gv k1 k2 fun i v hv=>k3 i v hv (by omega)⟩
def WW(K:Qqy)(A:Ad):Sp:=fun vs H Q _=>∃(x:Str)(t a:Addr)(texts:List Str)(kn:Nat→Option Nm),vs=[.str x,.ref t,.ref a]∧gH K H t (gp texts)∧(∀H',gj H H'→gH K H' t (gp texts))∧SV H a kn∧texts.length≤4000∧∀p H',gj H H'→H p=none→qL A H' p (kI x texts kn)→Q (.ref p) H'
theorem C7(T:Txt mg)(O:Ok K mg A):ij P w K mg base mr 3 A.xN A.xO ["patch","texts","kept_names"] (WW K A):=by
 have Bs:=@Ak P w K mg base A T O
 have yH:=@C6 P w K mg base A T O
 refine O.BO.f.qr jK fun jl A0 outer s H vs Q E hr h=>?_
 obtain⟨x,t,a,texts,kn,rfl,_,ht,hkn,hn,q⟩:=h
 have sz:sizeLine=16777216:=aaw
 have et:((gp texts).length:Int)=(texts.length:Int):=by simp
 obtain⟨kvs,h1,h2⟩:=id hkn
 refine⟨_,(de (kW 3 jK (o_ O.yj Bs hr (a_ (pv 2) (a_ (gs gk (by rfl) T.iW aah (a_ (pv 1) d_)) d_))))
   (de (kW 4 jK (iO d_))
   (de (kW 5 jK uf)
   (de (il aam rfl (Mo rfl T.EJ (a_ (pv 1) d_)) (Je rfl (uS (qY 6 jK) (uS (qY 7 jK) GD))) (fR (ik (i9 (nR (by exact iG hr) (pv 6) (pv 2))) (fR (kW 5 jK (zz hr (pv 2) (pv 6)))) (de (hX (nP aaI aaM aaN jC (pv 4) (a_ (uW O.Py yH (hr.mono (by decide)) (by rfl) O.Pz O.ua.b .nil nU (a_ (rM (a_ (pv 0) (a_ (gs gk (by rfl) T.iW aah (a_ (pv 4) d_)) d_))) (a_ (pv 7) (a_ (pv 5) (a_ (pE (pv 3) (pv 6)) d_))))) d_)))
   (fR (kW 5 jK (gC (pE (pv 4) (rJ nO gc)) rfl)))))))
   (fR (hE (pv 4))))))),?_⟩
 refine Pc ?_;intro _ _ _ _
 refine⟨_,rfl,_,rfl,t,_,rfl,.inl (ht H (gj.refl H)),?_⟩
 rw[et]
 refine⟨a,texts.length,kn,rfl,hkn,hn,fun b H1 bs s1 Oh Lj IS Ue=>?_⟩
 refine⟨L2.jA,fun l hl=>?_⟩
 have XJ:H l=none:=s1.free hl
 have s2:gj H1 (upd H1 l (.lst [])):=(gj.refl H1).new hl
 refine⟨_,rfl,t,rfl,⟨_,ht _ (s1.trans s2)⟩,J2 (K:=K) (a:=t) (xs:=gp texts) (fun i σ H2=>∃(v6 v7:Option V)(vu:V)(u:Option Nm)(as:List Addr)(acc:List Ln),σ=[rs x,rr t,rr a,rr b,rr l,some vu,v6,v7]∧gj H1 H2∧H2 l=some (.lst (as.map V.ref))∧Paired (nc A H2) as acc∧acc.length≤i∧FX H2 vu u∧acc++tL x kn i acc.length u (texts.drop i)=kI x texts kn)
  ⟨none,none,.jm,none,[],[],rfl,s2,b_,.nil,WL _,rfl,rfl⟩ (by rintro _ _ _ _ ⟨_,_,_,_,_,_,_,s3,_⟩;exact ht _ (s1.trans s3)) ?_ ?_⟩
 ·rintro i tv e σ H2 hx ⟨v6,v7,vu,u,as,acc,rfl,s3,k1,k2,k3,k4,k5⟩ he
  obtain⟨tx,htx,rfl⟩:=mv hx
  have hi:i<texts.length:=(List.getElem?_eq_some_iff.mp htx).1
  have hd:texts.drop i=tx::texts.drop (i+1):=by rw[aaT hi];congr 1;exact(List.getElem?_eq_some_iff.mp htx).2
  have s4:gj H2 (upd H2 e (.tup [.int i,.str tx])):=(gj.refl H2).new he
  have Oi:=s3.trans s4
  rw[hd] at k5
  unfold tL at k5
  refine⟨e,_,rfl,rG.of b_,rfl,_,_,rfl,_,_,rfl,rfl,?_⟩
  refine⟨_,rfl,_,rfl,a,_,rfl,iZ.k (k:=Sum.inl (i:Int)) (Oi _ _ (s1 _ _ h1)),_,rfl,?_⟩
  have h3:=h2 i
  cases hk:kn i with
  | some m=>
   rw[hk] at h3 k5
   obtain⟨u',z1,z2⟩:=h3
   rw[z1]
   refine kD ⟨_,rfl,_,rfl,a,u',rfl,?_,?_⟩
   ·have:=iZ.k (k:=Sum.inl (i:Int)) (Oi _ _ (s1 _ _ h1))
    rw[z1] at this
    exact this
   ·exact⟨_,_,_,some m,as,acc,rfl,Oi,s4 _ _ k1,Paired.kC k2 fun _ _ z=>z.same s4,by omega,(z2.same s1).same Oi,k5⟩
  | none=>
   rw[hk] at h3 k5
   rw[h3]
   have Of:=aaj k2
   have el:((as.map V.ref).length:Int)=(acc.length:Int):=by rw[TU,Of]
   refine i_ ⟨_,rfl,.inl ⟨rfl,_,gH.of (s4 _ _ k1)⟩,_,rfl,_,rfl,l,_,rfl,.inl (gH.of (s4 _ _ k1)),?_⟩
   rw[el]
   refine⟨L2.jA,fun nt hnt=>?_⟩
   have s5:=Oi.new (o:=.tup [.str x,.int acc.length]) hnt
   obtain⟨bv,hbv⟩:∃bv,bs[i]?=some bv:=⟨_,TZ (by omega)⟩
   refine⟨_,rfl,_,rfl,_,rfl,_,rfl,b,_,_,_,rfl,rfl,gH.of (s5 _ _ Lj),ic rfl hbv,?_⟩
   intro o dx no QL Ys
   have Yt:gj (upd (upd H2 e (.tup [.int i,.str tx])) nt (.tup [.str x,.int acc.length])) (upd (upd (upd (upd H2 e (.tup [.int i,.str tx])) nt (.tup [.str x,.int acc.length])) dx (.own o)) o (.ins A.hV dx [])):=fun c u e=>by
    rw[e_ (gh e no),e_ (gh e QL)]
    exact e
   refine⟨o,dx,_,_,_,_,rfl,b_,fun H6 r6 r7=>⟨rfl,?_⟩⟩
   have s6:gj (upd (upd H2 e (.tup [.int i,.str tx])) nt (.tup [.str x,.int acc.length])) H6:=fun c u ec=>by
    rw[r6 c (gh ec no)]
    exact Yt c u ec
   have Uv:gj H2 H6:=(s4.new hnt).trans s6
   have Uw:=Uv _ _ k1
   have L4:nc A H6 o ⟨(x,acc.length),tx,u,Mt kn (texts.drop (i+1)).length i⟩:=⟨dx,.ref nt,vu,bv,r7,⟨nt,rfl,s6 _ _ b_⟩,k4.same Uv,by
    have:=Ue i bv hbv
    rw[List.length_drop,show texts.length-(i+1)=texts.length-1-i by omega]
    exact(this.same s1).same (s3.trans Uv)⟩
   refine⟨l,_,_,rfl,rfl,Uw,by rw[TU];omega,?_⟩
   have lo:l≠o:=fun z=>by rw[z,r7] at Uw;cases Uw
   have e7:upd H6 l (.lst (as.map V.ref++[V.ref o])) l=some (.lst ((as++[o]).map V.ref)):=by rw[b_,aat];rfl
   have up:∀c ln,nc A H6 c ln→nc A (upd H6 l (.lst (as.map V.ref++[V.ref o]))) c ln:=fun c ln z=>z.upd Uw (fun _ z=>by cases z) (fun _ _ _ z=>by cases z)
   have r77:upd H6 l (.lst (as.map V.ref++[V.ref o])) o=some (.ins A.hV dx (MB (.ref nt) (.str tx) vu bv)):=by rw[e_ lo.symm];exact r7
   refine⟨_,rfl,_,rfl,l,_,_,_,rfl,rfl,gH.of b_,ze _ _,o,A.hV,dx,_,_,rfl,r77,O.iP,O.hU,i5,?_⟩
   refine⟨_,_,_,some (x,acc.length),as++[o],acc++[⟨(x,acc.length),tx,u,Mt kn (texts.drop (i+1)).length i⟩],rfl,(s3.trans Uv).upd hl,e7,?_,NM,?_,?_⟩
   ·exact iA (Paired.kC k2 fun c ln z=>up c ln (z.same Uv)) (up _ _ L4)
   ·exact lA.upd ⟨nt,rfl,s6 _ _ b_⟩ Uw (fun _ z=>by cases z)
   ·rw[aaQ,W4]
    exact k5
 ·rintro σ H2 ⟨v6,v7,vu,u,as,acc,rfl,s3,k1,k2,k3,k4,k5⟩
  rw[show(gp texts).length=texts.length by simp,acj] at k5
  rw[show tL x kn texts.length acc.length u []=[] from rfl,aaK] at k5
  rw[k5] at k2
  exact⟨_,rfl,q l H2 (s1.trans s3) XJ ⟨as,k1,k2⟩⟩
theorem G1{row:List Ln}{q:Nat×Nat}:∀{xs:List (Nat×Nat)},q.2∉xs.map (·.2)→∀s,mR row (xs++[q]) s=if q.2=s then(row[q.1]?).map (·.nm) else mR row xs s
 | [],_,s=>rfl
 | x::r,h,s=>by
  rw[aax] at h
  have h1:q.2≠x.2:=fun z=>h (by rw[z];exact aal)
  have h2:q.2∉r.map (·.2):=fun z=>h (aae _ z)
  show(if x.2=s then _ else mR row (r++[q]) s)=if q.2=s then _ else(if x.2=s then _ else mR row r s)
  by_cases e:x.2=s
  ·rw[aar e,aap (fun z=>h1 (by rw[z,e])),aar e]
  ·rw[aap e,aap e,G1 h2 s]
theorem Ia{row:List Ln}{q:Nat×Nat}{l:Ln}(xs:List (Nat×Nat))(h:row[q.1]?=some l):uo row (xs++[q])=uo row xs++[l.nm]:=by
 unfold uo
 rw[abH,abq,h]
 rfl
theorem Kv(T:Txt mg)(O:Ok K mg A):ij P w K mg base mr 3 A.Ke A.Kf ["old","new"] Kp.Z_:=
 Kp.MH O.kept.f ⟨T.iW,T.jj,T.GW⟩ O.sC.f O.sC.b O.sC.m O.uy.f O.uy.b O.uy.m O.uA.f O.uA.b O.uA.m
def SW(A:Ad):Sp:=fun vs H Q _=>∃(x f:Str)(r t:Addr)(row:List Ln)(texts:List Str),vs=[.str x,.str f,.ref r,.ref t]∧qL A H r row∧H t=some (.lst (gp texts))∧row.length≤1000∧texts.length≤1000∧
 ∀p H',gj H H'→H p=none→oz A H' p (mE x f row texts)→Q (.ref p) H'
theorem vS(T:Txt mg)(O:Ok K mg A):ij P w K mg base mr 4 A.p6 A.p7 ["patch","file","row","texts"] (SW A):=by
 have QM:=@Kv P w K mg base A T O
 have Fe:=@C7 P w K mg base A T O
 have j2:=@pj P w K mg base A T O
 refine O.sH.f.qr iK fun jl A0 outer s H vs Q E hr h=>?_
 obtain⟨x,f,r,t,row,texts,rfl,Az,ht,hn,hm,q⟩:=h
 obtain⟨as,xj,B8⟩:=id Az
 have hlen:=aaj B8
 have sz:sizeLine=16777216:=aaw
 refine⟨_,(de (kW 4 iK nS)
   (de (lq (i:=5) iK.nd rfl (Or.inr rfl) lD)
   (de (il aam rfl (ir (o_ O.kept QM hr (a_ (xx mj (f_ jY).names [9] rfl (ir (pv 2)) rfl (by decide+kernel) (fun _ _ _ _=>(iw (i:=9) iK.nd rfl (Or.inl rfl))) (fun _ _ _ _=>nV) (fun _ _ _ _=>AX (gC (pv 9) rfl))) (a_ (pv 3) d_)))) (Je rfl (uS (qY 6 iK) (uS (qY 7 iK) GD))) (de (jn (by exact iG hr) (pv 4) (pv 7) (gC (pE (pv 2) (pv 6)) rfl) rfl)
   (fR (jn (by exact iG hr) (pv 5) (gC (pE (pv 2) (pv 6)) rfl) j4 rfl))))
   (de (uk (j:=8) mj (f_ jY).names [9] iK.nd rfl rfl rfl (ir (pv 2)) rfl (by decide+kernel) (fun _ _ _ _=>(iw (i:=9) iK.nd rfl (Or.inl rfl))) (fun _ _ _ _=>⟨_,mL (i9 (jX (by exact iG hr) (gC (pv 9) rfl) (pv 5))),by(try simp only [ku]);rfl⟩) (fun _ _ _ _=>AX (gC (pv 9) rfl)))
   (fR (hE (uW O.CT j2 (hr.mono (by decide)) (by rfl) O.CU O.lS.b .nil nU (a_ (pv 0) (a_ (pv 1) (a_ (o_ O.BO Fe hr (a_ (pv 0) (a_ (pv 3) (a_ (pv 4) d_)))) (a_ (pv 8) (a_ uf d_)))))))))))),?_⟩
 refine Pc ?_;intro _ _ _ _
 intro k RB g VI
 have Yu:k≠g:=fun z=>by rw[←z,b_] at VI;cases VI
 have hgH:H g=none:=(gj.refl H |>.new (o:=.dK []) RB).free VI
 have s1:gj H (upd (upd H k (.dK [])) g (.dT [])):=((gj.refl H).new RB).new VI
 have Ux:(upd (upd H k (.dK [])) g (.dT [])) k=some (.dK []):=by rw[e_ Yu];exact b_
 have Rm:(upd (upd H k (.dK [])) g (.dT [])) g=some (.dT []):=b_
 generalize upd (upd H k (.dK [])) g (.dT [])=H1 at s1 Ux Rm
 have QG:(as.map V.ref).length≤sizeLine:=by rw[TU,hlen];omega
 let Jv:=fun(i:Nat) (ys:List V) (σ:St) (H4:Hp)=>∃(v9:Option V),σ=[rs x,rs f,rr r,rr t,rr k,rr g,none,none,none,v9]∧H4=H1∧ys=gp ((row.take i).map (·.tx))
 refine⟨_,rfl,r,rfl,⟨_,gH.of (s1 _ _ xj)⟩,kO (K:=K) (a:=r) (xs:=as.map V.ref) QG Jv
  ⟨none,rfl,rfl,rfl⟩ (by rintro _ _ _ _ _ ⟨_,_,e,e2⟩;subst e e2;exact⟨gH.of (s1 _ _ xj),by rw[TU,TU,aay];omega⟩) ?_ ?_⟩
 ·rintro i v ys σ H4 hx ⟨v9,rfl,rfl,rfl⟩
  obtain⟨b,hb,rfl⟩:=ke hx
  obtain⟨ln,uO,dx,vn,vu,vl,k1,k2,k3,k4⟩:=iz B8 hb
  refine⟨_,rfl,b,A.hV,dx,_,_,rfl,s1 _ _ k1,O.iP,O.jM,Aa,_,rfl,rfl,?_⟩
  rw[take_snoc uO,aat,jv]
  rfl
 ·rintro ys σ H4 ⟨v9,rfl,rfl,rfl⟩ o VJ
  rw[TU,hlen,aaq]
  have s2:gj H4 (upd H4 o (.lst (gp (row.map (·.tx))))):=(gj.refl H4).new VJ
  refine⟨_,rfl,row.map (·.tx),texts,o,t,rfl,b_,s2 _ _ (s1 _ _ ht),by rw[TU];exact hn,hm,fun pr H5 ps s5 IM Uy QN=>?_⟩
  have QO:gj H4 H5:=s2.trans s5
  have s05:gj H H5:=s1.trans QO
  have rise:=tj (row.map (·.tx)) texts
  rw[TU] at rise
  have Yv:(K01.kept (row.map (·.tx)) texts).length≤1000:=by
   rw[K01.xA]
   have:=K01.Eu (row.map (·.tx)) texts
   rw[TU] at this
   omega
  generalize hqs:K01.kept (row.map (·.tx)) texts=qs at QN rise Yv
  have Lh:=aaj QN
  let Jv:=fun(i:Nat) (σ:St) (H6:Hp)=>∃(v6 v7:Option V)(kk:List (Key×V))(kg:List (List Key×V)),σ=[rs x,rs f,rr r,rr t,rr k,rr g,v6,v7,none,none]∧(∀b o,H5 b=some o→b≠k→b≠g→H6 b=some o)∧H6 k=some (.dK kk)∧kk.length≤i∧(∀s:Nat,match mR row (qs.take i) s with|some m=>∃v,iI kk (Sum.inl (s:Int))=some v∧lA H v m|none=>iI kk (Sum.inl (s:Int))=none)∧H6 g=some (.dT kg)∧kg.length≤i∧Rc kg (uo row (qs.take i))
  refine⟨pr,rfl,⟨_,gH.of Uy⟩,iM (K:=K) (a:=pr) (xs:=ps) Jv
   ⟨none,none,[],[],rfl,fun b o e _ _=>e,QO _ _ Ux,WL _,(fun s=>by rw[abE];exact rfl),QO _ _ Rm,WL _,(fun n=>rfl)⟩ (by rintro _ _ _ _ ⟨_,_,_,_,_,e,_⟩;exact gH.of (e _ _ Uy (fun z=>by rw[z] at IM;rw[s2 _ _ Ux] at IM;cases IM) (fun z=>by rw[z] at IM;rw[s2 _ _ Rm] at IM;cases IM))) ?_ ?_⟩
  ·rintro i v σ H6 hx ⟨v6,v7,kk,kg,rfl,e1,e2,e3,e4,e5,e6,e7⟩
   obtain⟨qq,hq,pt,rfl,LO⟩:=j6 QN hx
   have Yw:H5 k=some (.dK []):=QO _ _ Ux
   have Yx:H5 g=some (.dT []):=QO _ _ Rm
   have hi:i<qs.length:=(List.getElem?_eq_some_iff.mp hq).1
   obtain⟨Lj,IL⟩:=rise.2 qq (WI hq)
   obtain⟨b,VG,ln0⟩:=Ai B8 (TZ Lj)
   have DQ:row[qq.1]?=some row[qq.1]:=TZ Lj
   generalize row[qq.1]=ln at ln0 DQ
   obtain⟨dx,vn,vu,vl,z1,⟨nt,rfl,z2⟩,z3,z4⟩:=ln0
   have up:∀{b o},H b=some o→H6 b=some o:=fun{b o} e=>e1 b o (s05 _ _ e) (fun z=>by rw[z,RB] at e;cases e) (fun z=>by rw[z,hgH] at e;cases e)
   refine⟨pt,_,rfl,rG.of (e1 _ _ LO (i7 LO Yw (fun z=>by cases z)) (i7 LO Yx (fun z=>by cases z))),rfl,_,_,rfl,_,_,rfl,rfl,?_⟩
   refine⟨_,rfl,_,rfl,r,_,_,_,rfl,rfl,gH.of (up xj),ic rfl VG,b,A.hV,dx,_,_,rfl,up z1,O.iP,O.hU,i5,_,rfl,_,rfl,k,_,rfl,mK.k (k:=Sum.inl (qq.2:Int)) e2 (by omega),?_⟩
   have Yy:∀{b o},H b=some o→upd H6 k (.dK (putK kk (Sum.inl (qq.2:Int)) (V.ref nt))) b=some o:=fun{b o} e=>by rw[e_ (fun z=>by rw[z,RB] at e;cases e)];exact up e
   have XC:=jf kk (Sum.inl (qq.2:Int):Key) (V.ref nt)
   have K5:=jf kg (nk ln.nm) (V.bl true)
   refine⟨_,rfl,_,rfl,_,rfl,r,_,_,_,rfl,rfl,gH.of (Yy xj),ic rfl VG,b,A.hV,dx,_,_,rfl,Yy z1,O.iP,O.hU,i5,g,_,rfl,mK.t (k:=nk ln.nm) (by rw[e_ Yu.symm];exact e5) (Yy z2) (by omega),?_⟩
   have Nr:qq.2∉(qs.take i).map (·.2):=fun z=>by
    obtain⟨w1,hw1,ew⟩:=List.mem_map.mp z
    obtain⟨j,hj⟩:=aaC.mp hw1
    have IJ:j<i:=by have:=(List.getElem?_eq_some_iff.mp hj).1;rw[aay] at this;omega
    rw[aa7,aar IJ] at hj
    obtain⟨hj1,hj2⟩:=List.getElem?_eq_some_iff.mp hj
    have:=aaJ.mp rise.1 j i hj1 hi IJ
    rw[hj2,(List.getElem?_eq_some_iff.mp hq).2] at this
    omega
   refine⟨_,_,_,_,rfl,fun b o e nk ng=>?_,by rw[e_ Yu];exact b_,by omega,fun s=>?_,b_,by omega,?_⟩
   ·rw[e_ ng,e_ nk];exact e1 b o e nk ng
   ·rw[take_snoc hq,G1 Nr,jW]
    by_cases es:qq.2=s
    ·subst es
     rw[aar rfl,aar rfl,DQ]
     exact⟨_,rfl,nt,rfl,z2⟩
    ·rw[aap es,aap (fun z=>es (by have:=Sum.inl.inj z;omega))]
     exact e4 s
   ·rw[take_snoc hq,Ia _ DQ]
    exact e7.put ln.nm _
  ·rintro σ H6 ⟨v6,v7,kk,kg,rfl,e1,e2,e3,e4,e5,e6,e7⟩
   rw[←Lh,aaq] at e4 e7
   have up:∀{b o},H b=some o→H6 b=some o:=fun{b o} e=>e1 b o (s05 _ _ e) (fun z=>by rw[z,RB] at e;cases e) (fun z=>by rw[z,hgH] at e;cases e)
   have sH6:gj H H6:=fun b o e=>up e
   refine⟨_,rfl,r,rfl,⟨_,gH.of (up xj)⟩,kO (K:=K) (a:=r) (xs:=as.map V.ref) QG (fun i ys σ H4=>∃(v9:Option V),σ=[rs x,rs f,rr r,rr t,rr k,rr g,v6,v7,none,v9]∧H4=H6∧ys.length≤i∧Paired (lA H) ys (((row.take i).filter fun l=>l.nm∉uo row qs).map (·.nm)))
    ⟨none,rfl,rfl,WL _,.nil⟩ (by rintro _ _ _ _ _ ⟨_,_,e,e20,_⟩;rw[e];exact⟨gH.of (up xj),e20⟩) ?_ ?_⟩
   ·rintro i v ys σ H7 hx ⟨v9,rfl,rfl,e8,e9⟩
    obtain⟨b,hb,rfl⟩:=ke hx
    obtain⟨ln,uO,dx,vn,vu,vl,k1,⟨nt,rfl,k2⟩,k3,k4⟩:=iz B8 hb
    refine⟨_,rfl,b,A.hV,dx,_,_,rfl,up k1,O.iP,O.hU,i5,_,rfl,g,_,rfl,iZ.t (k:=nk ln.nm) e5 (up k2),_,rfl,?_⟩
    rw[e7 ln.nm,take_snoc uO,aaB,aat]
    by_cases rF:ln.nm∈uo row qs
    ·rw[WM rF]
     refine i_ ⟨_,rfl,rfl,by omega,?_⟩
     rw[aad (by simpa using rF),aaP,List.map_nil,aaK]
     exact e9
    ·rw[Z6 rF]
     refine kD ⟨_,rfl,b,A.hV,dx,_,_,rfl,up k1,O.iP,O.hU,i5,_,rfl,rfl,NM,?_⟩
     rw[aaa (by simpa using rF),aaP]
     exact iA e9 ⟨nt,rfl,k2⟩
   ·rintro ys σ H7 ⟨v9,rfl,rfl,e8,e9⟩ c Yz
    rw[TU,hlen,aaq] at e9
    have s8:=sH6.new (o:=.lst ys) Yz
    have Ye:c≠k:=fun z=>by rw[z,e2] at Yz;cases Yz
    refine⟨_,rfl,_,rfl,_,rfl,_,rfl,_,rfl,x,t,k,texts,mR row qs,rfl,gH.of (s8 _ _ ht),fun H' s'=>gH.of (s' _ _ (s8 _ _ ht)),⟨kk,by rw[e_ Ye.symm];exact e2,fun s=>?_⟩,by omega,fun pu H9 s9 hpu0 YA=>?_⟩
    ·have:=e4 s
     cases ek:mR row qs s with
     | none=>rw[ek] at this;exact this
     | some m=>rw[ek] at this;obtain⟨v,w1,w2⟩:=this;exact⟨v,w1,w2.same s8⟩
    ·refine⟨_,rfl,?_⟩
     intro o dx no QL Ys
     refine⟨o,dx,_,_,_,_,_,rfl,b_,fun Oj r6 r7=>⟨rfl,?_⟩⟩
     have DT:gj H9 Oj:=fun c u ec=>by
      rw[r6 c (gh ec no),e_ (gh ec no),e_ (gh ec QL)]
      exact ec
     have Uz:=(s8.trans s9).trans DT
     refine q o Oj Uz ((s8.trans s9).free no) ?_
     unfold mE
     rw[hqs]
     exact⟨dx,_,pu,c,.jm,r7,rfl,YA.same DT,⟨ys,DT _ _ (s9 _ _ b_),Paired.kC e9 fun _ _ z=>z.same Uz⟩,rfl⟩
noncomputable def l8:Str:=Str.ofString "abcdefghijklmnopqrstuvwxyz0123456789"
def Good(x:Str):Prop:=1≤x.length∧x.length≤12∧∀c∈x.cps.toList,c∈l8.cps.toList
def kT(x:Str):Prop:=(reprText x).length≤1048576∧x.length≤1000
noncomputable abbrev sk(x:Str):Key:=Sum.inr x
theorem Al{x:Str}{l:List Str}:sk x∈l.map sk↔x∈l:=by
 constructor
 ·intro h
  obtain⟨m,hm,e⟩:=List.mem_map.mp h
  rw[←ack e];exact hm
 ·exact fun h=>XE h
theorem ko{dk:List (Key×V)}{l:List Str}(h:dk.map (·.1)=l.map sk):dk.length=l.length:=by
 have:=aa6 List.length h
 rwa [TU,TU] at this
theorem w_{dk:List (Key×V)}{l:List Str}(h:dk.map (·.1)=l.map sk){i:Nat}{k:Key}{v:V}(hi:dk[i]?=some (k,v)):∃x,l[i]?=some x∧k=sk x:=by
 have h1:(dk.map (·.1))[i]?=some k:=by rw[Z4,hi];rfl
 rw[h,Z4] at h1
 obtain⟨n,e,e2⟩:=Option.map_eq_some_iff.mp h1
 exact⟨n,e,e2.symm⟩
theorem kq{dk:List (Key×V)}{l:List Str}(h:dk.map (·.1)=l.map sk)(x:Str):(iI dk (sk x)).isSome=decide (x∈l):=by
 by_cases m:x∈l
 ·rw[WM m];exact tE.mpr (by rw[h];exact Al.mpr m)
 ·rw[Z6 m,abP];exact fun z=>m (Al.mp (by rw[←h];exact tE.mp z))
theorem qd{dk:List (Key×V)}{l:List Str}(h:dk.map (·.1)=l.map sk){x:Str}(hx:x∉l)(v:V):(putK dk (sk x) v).map (·.1)=(l++[x]).map sk:=by
 rw[qc,h,aap (fun z=>hx (Al.mp z)),aat];rfl
noncomputable def Am(m n h:Addr):List (Str×V):=[("made",.ref m),("needs",.ref n),("held",.ref h)]
theorem PZ(m n h:Addr):jF "held" (.ref h) (jF "needs" (.ref n) (jF "made" (.ref m) []))=Am m n h:=by kernel_rfl
theorem k_(m n h:Addr):(Am m n h).lookup ("held":Str)=some (V.ref h):=by kernel_rfl
theorem qf(m n h:Addr):(Am m n h).lookup ("made":Str)=some (V.ref m):=by kernel_rfl
theorem tF(m n h:Addr):(Am m n h).lookup ("needs":Str)=some (V.ref n):=by kernel_rfl
structure Dp where
 dx:Addr
 m:Addr
 n:Addr
 h:Addr
 ha:Str→Addr
 kM:List (Key×V)
 kN:List (Key×V)
 kH:List (Key×V)
structure NQ(A:Ad)(H:Hp)(d:Addr)(D:Dk)(W:Addr→Prop)(π:Dp):Prop where
 hd:H d=some (.ins A.gm π.dx (Am π.m π.n π.h))
 hm:H π.m=some (.dK π.kM)
 hn:H π.n=some (.dK π.kN)
 hh:H π.h=some (.dK π.kH)
 mn:π.m≠π.n
 mh:π.m≠π.h
 nh:π.n≠π.h
 wm:W π.m
 wn:W π.n
 wh:W π.h
 km:π.kM.map (·.1)=D.names.map sk
 vm:∀p∈D.made,∃a,iI π.kM (sk p.nm)=some (.ref a)∧oz A H a p
 kn:π.kN.map (·.1)=D.names.map sk
 vn:∀x∈D.names,∃(a:Addr)(kv:List (Key×V))(l:List Str),iI π.kN (sk x)=some (.ref a)∧¬W a∧H a=some (.dK kv)∧kv.map (·.1)=l.map sk∧l.Nodup∧∀y,y∈l↔y∈D.iT x
 kh:π.kH.map (·.1)=D.stores.map sk
 vh:∀s∈D.stores,iI π.kH (sk s)=some (.ref (π.ha s))∧W (π.ha s)∧π.ha s≠π.m∧π.ha s≠π.n∧π.ha s≠π.h∧∃kv:List (Key×V),H (π.ha s)=some (.dK kv)∧kv.map (·.1)=(D.held s).map sk
 inj:∀s∈D.stores,∀t∈D.stores,π.ha s=π.ha t→s=t
 dk:∀b,W b→∃kv,H b=some (.dK kv)
def iq(A:Ad)(H:Hp)(d:Addr)(D:Dk)(W:Addr→Prop):Prop:=∃π,NQ A H d D W π
theorem NQ.same{A:Ad}{H H':Hp}{d:Addr}{D:Dk}{W:Addr→Prop}{π:Dp}(x:NQ A H d D W π)(s:gj H H'):NQ A H' d D W π where
 hd:=s _ _ x.hd
 hm:=s _ _ x.hm
 hn:=s _ _ x.hn
 hh:=s _ _ x.hh
 mn:=x.mn
 mh:=x.mh
 nh:=x.nh
 wm:=x.wm
 wn:=x.wn
 wh:=x.wh
 km:=x.km
 vm:=fun p hp=>by obtain⟨a,h1,h2⟩:=x.vm p hp;exact⟨a,h1,h2.same s⟩
 kn:=x.kn
 vn:=fun y hy=>by obtain⟨a,kv,l,h1,h2,h3,h4⟩:=x.vn y hy;exact⟨a,kv,l,h1,h2,s _ _ h3,h4⟩
 kh:=x.kh
 vh:=fun t ht=>by obtain⟨h1,h2,h3,h4,h5,kv,h6,h7⟩:=x.vh t ht;exact⟨h1,h2,h3,h4,h5,kv,s _ _ h6,h7⟩
 inj:=x.inj
 dk:=fun b hb=>by obtain⟨kv,h⟩:=x.dk b hb;exact⟨kv,s _ _ h⟩
theorem iq.same{A:Ad}{H H':Hp}{d:Addr}{D:Dk}{W:Addr→Prop}(x:iq A H d D W)(s:gj H H'):iq A H' d D W:=by
 obtain⟨π,x⟩:=x
 exact⟨π,x.same s⟩
def o7(W:Addr→Prop)(H H':Hp):Prop:=∀b o,H b=some o→¬W b→H' b=some o
theorem o7.of{W:Addr→Prop}{H H':Hp}(s:gj H H'):o7 W H H':=fun b o e _=>s b o e
theorem iq.lst{A:Ad}{H:Hp}{d a:Addr}{D:Dk}{W:Addr→Prop}{xs:List V}(x:iq A H d D W)(h:H a=some (.lst xs)):¬W a:=fun z=>by
 obtain⟨π,x⟩:=x
 obtain⟨kv,e⟩:=x.dk a z
 rw[h] at e;cases e
theorem iq.tup{A:Ad}{H:Hp}{d a:Addr}{D:Dk}{W:Addr→Prop}{xs:List V}(x:iq A H d D W)(h:H a=some (.tup xs)):¬W a:=fun z=>by
 obtain⟨π,x⟩:=x
 obtain⟨kv,e⟩:=x.dk a z
 rw[h] at e;cases e
theorem iq.jm{A:Ad}{H:Hp}{d a:Addr}{D:Dk}{W:Addr→Prop}(x:iq A H d D W)(h:H a=none):¬W a:=fun z=>by
 obtain⟨π,x⟩:=x
 obtain⟨kv,e⟩:=x.dk a z
 rw[h] at e;cases e
theorem jz{m n h:Addr}:(Am m n h).lookup ("check_store":Str)=none:=by kernel_rfl
theorem qN{m n h:Addr}:(Am m n h).lookup ("check_new":Str)=none:=by kernel_rfl
theorem pq{m n h:Addr}:(Am m n h).lookup ("check_held":Str)=none:=by kernel_rfl
theorem Bf{m n h:Addr}:(Am m n h).lookup ("check_made":Str)=none:=by kernel_rfl
theorem C8{m n h:Addr}:(Am m n h).lookup ("keep":Str)=none:=by kernel_rfl
theorem sS{m n h:Addr}:(Am m n h).lookup ("has":Str)=none:=by kernel_rfl
theorem Bg{m n h:Addr}:(Am m n h).lookup ("patches_of":Str)=none:=by kernel_rfl
theorem mG{m n h:Addr}:(Am m n h).lookup ("sight_of":Str)=none:=by kernel_rfl
theorem Ge{m n h:Addr}:(Am m n h).lookup ("row":Str)=none:=by kernel_rfl
theorem sT{m n h:Addr}:(Am m n h).lookup ("quarrels":Str)=none:=by kernel_rfl
theorem Kw{m n h:Addr}:(Am m n h).lookup ("leans":Str)=none:=by kernel_rfl
theorem G2{m n h:Addr}:(Am m n h).lookup ("stay":Str)=none:=by kernel_rfl
theorem Kx{m n h:Addr}:(Am m n h).lookup ("begin":Str)=none:=by kernel_rfl
theorem Ib{m n h:Addr}:(Am m n h).lookup ("record":Str)=none:=by kernel_rfl
theorem Ky{m n h:Addr}:(Am m n h).lookup ("cut":Str)=none:=by kernel_rfl
theorem ML{m n h:Addr}:(Am m n h).lookup ("back":Str)=none:=by kernel_rfl
theorem G3{m n h:Addr}:(Am m n h).lookup ("take":Str)=none:=by kernel_rfl
theorem MM{m n h:Addr}:(Am m n h).lookup ("drop":Str)=none:=by kernel_rfl
noncomputable def Vc:Dk:=⟨[],fun _=>[],[],fun _=>[]⟩
theorem WX:Inv Vc:=⟨abp,(fun p hp=>by cases hp),(fun p hp=>by cases hp),⟨fun _=>0,fun p hp=>by cases hp⟩,(fun i p hp=>by simp[Vc] at hp),(fun x hx=>by cases hx),abp,(fun s hs=>by cases hs),(fun s hs=>by cases hs)⟩
def P0(A:Ad):Sp:=fun vs H Q _=>∃(p dx:Addr),vs=[.ref p]∧H p=some (.ins A.gm dx [])∧∀(H':Hp)(W:Addr→Prop),iq A H' p Vc W→(∀b,W b→H b=none)→(∀b o,H b=some o→b≠p→H' b=some o)→Q .jm H'
theorem C9(T:Txt mg)(O:Ok K mg A):ij P w K mg base mr 1 A.mZ A.ra ["self"] (P0 A):=by
 refine O.ub.f.qr wN fun jl A0 outer s H vs Q E hr h=>?_
 obtain⟨p,dx,rfl,hp,k⟩:=h
 refine⟨_,(de (lB (pv 0) nS rfl)
   (de (lB (pv 0) nS rfl)
   (fR (lB (pv 0) nS rfl)))),?_⟩
 refine DO ?_;intro _ _
 intro m hm
 have Gx:p≠m:=gh hp hm
 refine⟨_,rfl,p,A.gm,dx,_,rfl,(by rw[e_ Gx];exact hp),O.gF,O.i4,(by show 0<1000;decide),?_⟩
 intro n hn
 have UA:p≠n:=gh b_ hn
 have VL:m≠n:=by
  intro z;subst z;rw[e_ Gx.symm,b_] at hn;cases hn
 have hH:H n=none:=by rw[e_ UA.symm,e_ VL.symm] at hn;exact hn
 refine⟨_,rfl,p,A.gm,dx,_,rfl,(by rw[e_ UA];exact b_),O.gF,O.jd,(by show 1<1000;decide),?_⟩
 intro h hh
 have VM:p≠h:=gh b_ hh
 have YB:n≠h:=by
  intro z;subst z;rw[e_ UA.symm,b_] at hh;cases hh
 have YC:m≠h:=by
  intro z;subst z;rw[e_ Gx.symm,e_ VL,e_ Gx.symm,b_] at hh;cases hh
 have hhH:H h=none:=by rw[e_ VM.symm,e_ YB.symm,e_ VM.symm,e_ YC.symm] at hh;exact hh
 refine⟨_,rfl,p,A.gm,dx,_,rfl,(by rw[e_ VM];exact b_),O.gF,O.iy,(by show 2<1000;decide),?_⟩
 have e1:∀{o},upd (upd (upd (upd (upd (upd H m (.dK [])) p (.ins A.gm dx (jF "made" (.ref m) []))) n (.dK [])) p (.ins A.gm dx (jF "needs" (.ref n) (jF "made" (.ref m) [])))) h (.dK [])) p o m=some (.dK []):=by
  intro o;rw[e_ Gx.symm,e_ YC,e_ Gx.symm,e_ VL,e_ Gx.symm,b_]
 have e2:∀{o},upd (upd (upd (upd (upd (upd H m (.dK [])) p (.ins A.gm dx (jF "made" (.ref m) []))) n (.dK [])) p (.ins A.gm dx (jF "needs" (.ref n) (jF "made" (.ref m) [])))) h (.dK [])) p o n=some (.dK []):=by
  intro o;rw[e_ UA.symm,e_ YB,e_ UA.symm,b_]
 have e3:∀{o},upd (upd (upd (upd (upd (upd H m (.dK [])) p (.ins A.gm dx (jF "made" (.ref m) []))) n (.dK [])) p (.ins A.gm dx (jF "needs" (.ref n) (jF "made" (.ref m) [])))) h (.dK [])) p o h=some (.dK []):=by
  intro o;rw[e_ VM.symm,b_]
 refine k _ (fun b=>b=m∨b=n∨b=h) ⟨⟨dx,m,n,h,fun _=>0,[],[],[]⟩,Eq.trans b_ (aa6 (fun l=>some (HO.ins A.gm dx l)) (PZ m n h)),e1,e2,e3,VL,YC,YB,.inl rfl,.inr (.inl rfl),.inr (.inr rfl),rfl,(fun p hp=>by cases hp),rfl,(fun p hp=>by cases hp),rfl,(fun p hp=>by cases hp),(fun p hp=>by cases hp),fun b hb=>?_⟩ (fun b hb=>?_) fun b o e hb=>?_
 ·rcases hb with rfl|rfl|rfl
  ·exact⟨_,e1⟩
  ·exact⟨_,e2⟩
  ·exact⟨_,e3⟩
 ·rcases hb with rfl|rfl|rfl
  ·exact hm
  ·exact hH
  ·exact hhH
 ·rw[e_ hb,e_ (gh e hhH),e_ hb,e_ (gh e hH),e_ hb,e_ (gh e hm)]
  exact e
def MN(XB:Addr):Sp:=fun vs H Q E=>∃x:Str,vs=[.str x]∧kT x∧(Good x→Q .jm H)∧(¬Good x→E (.ref XB) none H)
theorem NR:(12:Int).natAbs.log2<1920:=by decide
theorem ud(T:Txt mg)(O:Ok K mg A):ij P w K mg base (tK P w) 1 A.vC A.vD ["name"] (MN A.jD):=by
 refine O.uB.f.qt tU fun jl A0 outer s H vs Q E hr h=>?_
 obtain⟨x,rfl,⟨hf,hl⟩,q,qe⟩:=h
 refine⟨_,(de (ik (jT (y_ D_ D_ gc (gs uX (by rfl) T.iW aah (a_ (pv 0) d_)) (Cb (v:=.int 12) (by rfl) O.sI ⟨_,rfl⟩))) (fR (ki bx O.BW (by rfl) (lF (iu i8 (iu (JO (Cb (v:=.int 12) (by rfl) O.sI ⟨_,rfl⟩)) (iu i8 (iu (mO (pv 0)) nY))))))) g_)
   (fR (il JH rfl (Pe (pv 0)) (qY 1 tU) (fR (ik (ib Cc (pv 1) (Cb (v:=.str (Str.ofString "abcdefghijklmnopqrstuvwxyz0123456789")) (by rfl) O.CV ⟨_,rfl⟩) rfl) (fR (ki bx O.BW (by rfl) (lF (iu i8 (iu (mO (pv 0)) nY))))) g_))))),?_⟩
 refine LD ?_;intro _
 have hz:x.length≤sizeLine:=XI hl (by decide)
 have bad:¬Good x→∀H',H'=H→E (.ref A.jD) none H':=fun g H' e=>by subst e;exact qe g
 refine⟨_,rfl,_,rfl,hz,_,_,rfl,rfl,_,rfl,?_⟩
 refine kF (fun h1=>?_) (fun h1=>?_)
 ·refine⟨_,_,rfl,rfl,_,rfl,?_⟩
  refine kF (fun h2=>?_) (fun h2=>?_)
  ·
   have h2:¬((x.length:Int)≤12):=by simpa using h2
   refine⟨_,rfl,by decide+kernel,⟨_,rfl,NR,_,rfl,by decide+kernel,⟨_,rfl,by decide+kernel,⟨_,rfl,_,rfl,hf,_,rfl,hf,fun _=>qe fun g=>?_⟩⟩⟩⟩
   have:=g.2.1;omega
  ·have h1:(1:Int)≤(x.length:Int):=by simpa using h1
   have h2:(x.length:Int)≤12:=by simpa using h2
   refine⟨_,rfl,x,rfl,JN (fun i σ H2=>∃v,σ=[rs x,v]∧H2=H∧∀j<i,∀c,x.cps[j]?=some c→c∈l8.cps.toList) ⟨none,rfl,rfl,fun j hj=>absurd hj (by omega)⟩ ?_ ?_⟩
   ·rintro i c σ H2 hc ⟨v,rfl,rfl,hp⟩
    refine⟨_,rfl,_,_,rfl,rfl,_,rfl,?_⟩
    rw[Mi]
    refine kF (fun h3=>?_) (fun h3=>?_)
    ·have h3:c∉l8.cps.toList:=by simpa[l8] using h3
     refine⟨_,rfl,by decide+kernel,⟨_,rfl,_,rfl,hf,_,rfl,hf,fun _=>qe fun g=>?_⟩⟩
     exact h3 (g.2.2 c (WI (i:=i) (by rw[aa8];exact hc)))
    ·have h3:c∈l8.cps.toList:=by simpa[l8] using h3
     refine⟨_,rfl,rfl,fun j hj c' B4=>?_⟩
     by_cases e:j=i
     ·subst e;rw[hc] at B4;cases B4;exact h3
     ·exact hp j (by omega) c' B4
   ·rintro σ H2 ⟨v,rfl,rfl,hp⟩
    refine q ⟨by omega,by omega,fun c hc=>?_⟩
    obtain⟨j,hj,e⟩:=List.mem_iff_getElem.mp hc
    have hj':j<x.cps.size:=by simpa using hj
    exact hp j hj' c (by rw[aaY hj'];simpa using e)
 ·have h1:¬((1:Int)≤(x.length:Int)):=by simpa using h1
  refine⟨_,rfl,?_⟩
  refine⟨_,rfl,by decide+kernel,⟨_,rfl,NR,_,rfl,by decide+kernel,⟨_,rfl,by decide+kernel,⟨_,rfl,_,rfl,hf,_,rfl,hf,fun _=>qe fun g=>?_⟩⟩⟩⟩
  have:=g.1;omega
def MO(A:Ad):Sp:=fun vs H Q E=>∃(d:Addr)(D:Dk)(W:Addr→Prop)(s:Str),vs=[.ref d,.str s]∧iq A H d D W∧kT s∧(s∈D.stores→Q .jm H)∧(s∉D.stores→E (.ref A.iL) none H)
theorem j0(T:Txt mg)(O:Ok K mg A):ij P w K mg base (tK P w) 1 A.oq A.ou ["self","store"] (MO A):=by
 refine O.iU.f.qt tN fun jl A0 outer s H vs Q E hr h=>?_
 obtain⟨d,D,W,st,rfl,⟨π,x⟩,hf,q,qe⟩:=h
 refine⟨_,(fR (ik (i9 (jX (by exact iG hr) (pv 1) (gC (pv 0) rfl))) (fR (ki bx O.HU (by rfl) (lF (iu i8 (iu (mO (pv 1)) nY))))) g_)),?_⟩
 refine⟨_,rfl,_,rfl,d,A.gm,π.dx,_,_,rfl,x.hd,O.gF,O.iy,k_ _ _ _,π.h,_,rfl,iZ.k (k:=sk st) x.hh,_,rfl,?_⟩
 rw[kq x.kh]
 by_cases hs:st∈D.stores
 ·rw[WM hs]
  exact q hs
 ·rw[Z6 hs]
  exact kD ⟨_,rfl,by decide+kernel,⟨_,rfl,_,rfl,hf.1,_,rfl,hf.1,fun _=>qe hs⟩⟩
def P1(A:Ad):Sp:=fun vs H Q E=>∃(d:Addr)(D:Dk)(W:Addr→Prop)(s:Str),vs=[.ref d,.str s]∧iq A H d D W∧kT s∧(s∈D.names→Q .jm H)∧(s∉D.names→E (.ref A.jZ) none H)
theorem Bh(T:Txt mg)(O:Ok K mg A):ij P w K mg base (tK P w) 1 A.oV A.oW ["self","patch"] (P1 A):=by
 refine O.rn.f.qt ur fun jl A0 outer s H vs Q E hr h=>?_
 obtain⟨d,D,W,st,rfl,⟨π,x⟩,hf,q,qe⟩:=h
 refine⟨_,(fR (ik (i9 (jX (by exact iG hr) (pv 1) (gC (pv 0) rfl))) (fR (ki bx O.BX (by rfl) (lF (iu i8 (iu (mO (pv 1)) nY))))) g_)),?_⟩
 refine⟨_,rfl,_,rfl,d,A.gm,π.dx,_,_,rfl,x.hd,O.gF,O.i4,qf _ _ _,π.m,_,rfl,iZ.k (k:=sk st) x.hm,_,rfl,?_⟩
 rw[kq x.km]
 by_cases hs:st∈D.names
 ·rw[WM hs]
  exact q hs
 ·rw[Z6 hs]
  exact kD ⟨_,rfl,by decide+kernel,⟨_,rfl,_,rfl,hf.1,_,rfl,hf.1,fun _=>qe hs⟩⟩
def P2(A:Ad):Sp:=fun vs H Q E=>∃(d:Addr)(D:Dk)(W:Addr→Prop)(s x:Str),vs=[.ref d,.str s,.str x]∧iq A H d D W∧kT s∧kT x∧s∈D.stores∧(x∈D.held s→Q .jm H)∧(x∉D.held s→E (.ref A.jZ) none H)
theorem pw(T:Txt mg)(O:Ok K mg A):ij P w K mg base (tK P w) 1 A.oX A.oY ["self","store","patch"] (P2 A):=by
 refine O.lj.f.qt uu fun jl A0 outer s H vs Q E hr h=>?_
 obtain⟨d,D,W,st,y,rfl,⟨π,x⟩,hf,Gy,hs,q,qe⟩:=h
 obtain⟨v1,_,_,_,_,kv,v2,v3⟩:=x.vh st hs
 refine⟨_,(fR (ik (i9 (jX (by exact iG hr) (pv 2) (zz hr (gC (pv 0) rfl) (pv 1)))) (fR (ki bx O.BX (by rfl) (lF (iu i8 (iu (mO (pv 1)) (iu i8 (iu (mO (pv 2)) nY))))))) g_)),?_⟩
 refine⟨_,rfl,_,rfl,d,A.gm,π.dx,_,_,rfl,x.hd,O.gF,O.iy,k_ _ _ _,_,rfl,π.h,.ref (π.ha st),rfl,?_,π.ha st,_,rfl,iZ.k (k:=sk y) v2,_,rfl,?_⟩
 ·have:=iZ.k (k:=sk st) x.hh
  rw[v1] at this
  exact this
 ·rw[kq v3]
  by_cases hy:y∈D.held st
  ·rw[WM hy]
   exact q hy
  ·rw[Z6 hy]
   refine kD ?_
   exact⟨_,rfl,by decide+kernel,⟨_,rfl,_,rfl,hf.1,_,rfl,hf.1,⟨_,rfl,by decide+kernel,⟨_,rfl,_,rfl,Gy.1,_,rfl,Gy.1,fun _=>qe hy⟩⟩⟩⟩
def Ic(H:Hp)(v:V)(l:Ln):Prop:=∃t,v=.ref t∧H t=some (.tup [.str l.nm.1,.int l.nm.2,.str l.tx])
def sU(H:Hp)(a:Addr)(row:List Ln):Prop:=∃vs,H a=some (.lst vs)∧Paired (Ic H) vs row
theorem Ic.same{H H':Hp}{v:V}{l:Ln}(x:Ic H v l)(s:gj H H'):Ic H' v l:=by obtain⟨t,e,h⟩:=x;exact⟨t,e,s _ _ h⟩
theorem sU.same{H H':Hp}{a:Addr}{row:List Ln}(x:sU H a row)(s:gj H H'):sU H' a row:=by
 obtain⟨vs,h,p⟩:=x
 exact⟨vs,s _ _ h,Paired.kC p fun _ _ z=>z.same s⟩
def SX(A:Ad):Sp:=fun vs H Q E=>∃(d:Addr)(D:Dk)(W:Addr→Prop)(s:Str),vs=[.ref d,.str s]∧iq A H d D W∧kT s∧uN D.made.length∧(s∉D.stores→E (.ref A.iL) none H)∧(s∈D.stores→∀p,H p=none→Q (.ref p) (upd H p (.lst (gp (D.has s)))))
theorem Gf(T:Txt mg)(O:Ok K mg A):ij P w K mg base (tK P w) 2 A.zS A.zT ["self","store"] (SX A):=by
 have ig:=@j0 P w K mg base A T O
 refine O.lU.f.qt xC fun jl A0 outer s H vs Q E hr h=>?_
 obtain⟨d,D,W,st,rfl,X,hf,jA,qe,q⟩:=h
 obtain⟨π,x⟩:=id X
 have v_:D.made.length≤4000:=jA
 have sz:sizeLine=16777216:=aaw
 refine⟨_,(de (hX (AW bx (pv 0) O.gF O.iU ig hr (a_ (pv 1) d_)))
   (fR (hE (GO (zm zL (f_ qE).names [2] rfl (Ct (gC (pv 0) rfl)) rfl (by decide+kernel) (fun _ _ _ _=>(iw (i:=2) xC.nd rfl (Or.inl rfl))) (fun _ _ _ _=>⟨_,mL (i9 (nR (by exact iG hr) (pv 2) (zz hr (gC (pv 0) rfl) (pv 1)))),by(try simp only [ku]);rfl⟩) (fun _ _ _ _=>AX (pv 2))))))),?_⟩
 refine LD ?_;intro _
 refine⟨_,rfl,d,π.dx,_,rfl,x.hd,jz,_,rfl,d,D,W,st,rfl,X,hf,fun hs=>?_,fun hs=>qe hs⟩
 obtain⟨v1,_,rB,_,_,kv,v2,v3⟩:=x.vh st hs
 refine⟨_,rfl,d,A.gm,π.dx,_,_,rfl,x.hd,O.gF,O.i4,qf _ _ _,π.m,π.kM,rfl,x.hm,fun o uz=>?_⟩
 have IU:=ko x.km
 have QI:D.names.length=D.made.length:=by unfold Dk.names;rw[TU]
 have RC:d≠π.m:=i7 x.hd x.hm (fun z=>by cases z)
 have f:∀{b u},H b=some u→b≠π.m→upd H π.m (.nq o (.dK π.kM)) b=some u:=fun{b u} e n=>by rw[e_ n];exact e
 refine GQ (by omega) (fun i ys σ H3=>∃(v2:Option V)(zs:List Str),σ=[rr d,rs st,v2]∧H3=upd H π.m (.nq o (.dK π.kM))∧ys=gp zs∧zs=(D.names.take i).filter fun x=>x∈D.held st) ⟨none,[],rfl,rfl,rfl,rfl⟩ (fun i ys σ H3 ⟨_,zs,_,e,e2,e3⟩=>?_) ?_ ?_
 ·rw[e,e2,e3]
  refine⟨b_,?_⟩
  rw[TU]
  exact XI (aaE _ _) (by rw[aay];omega)
 ·rintro i k v ys σ H3 hi ⟨v0,zs,rfl,rfl,rfl,e3⟩
  obtain⟨y,hy,rfl⟩:=w_ x.km hi
  refine⟨_,rfl,_,rfl,d,A.gm,π.dx,_,_,rfl,f x.hd RC,O.gF,O.iy,k_ _ _ _,_,rfl,π.h,.ref (π.ha st),rfl,?_,π.ha st,_,rfl,iZ.k (k:=sk y) (f v2 rB),_,rfl,?_⟩
  ·have:=iZ.k (k:=sk st) (f x.hh x.mh.symm)
   rw[v1] at this
   exact this
  ·rw[kq v3,take_snoc hy,aaB]
   by_cases hm:y∈D.held st
   ·rw[WM hm]
    refine kD ⟨_,rfl,_,_,rfl,rfl,jv _ _,?_⟩
    rw[e3,aaa (by simpa using hm),aaP]
   ·rw[Z6 hm]
    refine i_ ⟨_,_,rfl,rfl,rfl,?_⟩
    rw[e3,aad (by simpa using hm),aaP,aaK]
 ·rintro ys σ H3 ⟨v0,zs,rfl,rfl,rfl,e3⟩ p qj
  rw[IU,aaq] at e3
  have Gx:p≠π.m:=fun z=>by rw[z,b_] at qj;cases qj
  have Gv:H p=none:=by rw[e_ Gx] at qj;exact qj
  refine⟨π.m,o,_,by rw[e_ Gx.symm];exact b_,uz,?_⟩
  rw[Cs x.hm Gx]
  have:=q hs p Gv
  unfold Dk.has at this
  rw[←e3] at this
  exact this
def SY(A:Ad):Sp:=fun vs H Q E=>∃(d:Addr)(D:Dk)(W:Addr→Prop)(s:Str),vs=[.ref d,.str s]∧iq A H d D W∧kT s∧uN D.made.length∧(s∉D.stores→E (.ref A.iL) none H)∧(s∈D.stores→∀p H',gj H H'→H p=none→yD A H' p (D.l6 s)→Q (.ref p) H')
theorem Bi(T:Txt mg)(O:Ok K mg A):ij P w K mg base (tK P w) 3 A.oT A.oU ["self","store"] (SY A):=by
 have jR:=@Gf P w K mg base A T O
 refine O.rm.f.qt oj fun jl A0 outer s H vs Q E hr h=>?_
 obtain⟨d,D,W,st,rfl,X,hf,jA,qe,q⟩:=h
 obtain⟨π,x⟩:=id X
 have v_:D.made.length≤4000:=jA
 have sz:sizeLine=16777216:=aaw
 have qi:(D.l6 st).length≤D.made.length:=aaE _ _
 refine⟨_,(fR (hE (xx oO (f_ kx).names [2] rfl (ir (AW bx (pv 0) O.gF O.lU jR hr (a_ (pv 1) d_))) rfl (by decide+kernel) (fun _ _ _ _=>(iw (i:=2) oj.nd rfl (Or.inl rfl))) (fun _ _ _ _=>nV) (fun _ _ _ _=>AX (zz hr (gC (pv 0) rfl) (pv 2)))))),?_⟩
 refine⟨_,rfl,d,π.dx,_,rfl,x.hd,sS,_,rfl,d,D,W,st,rfl,X,hf,jA,fun hs=>qe hs,fun hs p qj=>?_⟩
 rw[Dk.GV]
 have s1:gj H (upd H p (.lst (gp ((D.l6 st).map (·.nm))))):=(gj.refl H).new qj
 have Nk:(upd H p (.lst (gp ((D.l6 st).map (·.nm))))) p=some (.lst (gp ((D.l6 st).map (·.nm)))):=b_
 generalize upd H p (.lst (gp ((D.l6 st).map (·.nm))))=H1 at s1 Nk
 let Jv:=fun(i:Nat) (ys:List V) (σ:St) (H3:Hp)=>∃(v2:Option V)(as:List Addr),σ=[rr d,rs st,v2]∧H3=H1∧ys=as.map V.ref∧Paired (oz A H) as ((D.l6 st).take i)
 refine⟨p,rfl,⟨_,gH.of Nk⟩,kO (K:=K) (a:=p) (xs:=gp ((D.l6 st).map (·.nm))) (by rw[TU,TU];omega) Jv
  ⟨none,[],rfl,rfl,rfl,.nil⟩ (fun i ys σ H3 _ ⟨_,as,_,e,e2,e3⟩=>?_) ?_ ?_⟩
 ·rw[e,e2]
  have:=aaj e3
  rw[aay] at this
  exact⟨gH.of Nk,by rw[TU];omega⟩
 ·rintro i v ys σ H3 hx ⟨v2,as,rfl,rfl,rfl,e3⟩
  obtain⟨y,hy,rfl⟩:=mv hx
  rw[Z4] at hy
  obtain⟨pt,LO,rfl⟩:=Option.map_eq_some_iff.mp hy
  have rF:pt∈D.made:=(Inv.mx.mp (WI LO)).1
  obtain⟨a,z1,z2⟩:=x.vm pt rF
  refine⟨_,rfl,d,A.gm,π.dx,_,_,rfl,s1 _ _ x.hd,O.gF,O.i4,qf _ _ _,_,rfl,π.m,.ref a,rfl,?_,?_⟩
  ·have:=iZ.k (k:=sk pt.nm) (s1 _ _ x.hm)
   rw[z1] at this
   exact this
  ·refine⟨_,as++[a],rfl,rfl,by rw[aat];rfl,?_⟩
   rw[take_snoc LO]
   exact iA e3 z2
 ·rintro ys σ H3 ⟨v2,as,rfl,rfl,rfl,e3⟩ r pF
  have e0:(gp ((D.l6 st).map (·.nm))).length=(D.l6 st).length:=by rw[TU,TU]
  rw[e0,aaq] at e3
  have s2:=s1.new (o:=.lst (as.map V.ref)) pF
  exact q hs r _ s2 (s1.free pF) ⟨as,b_,Paired.kC e3 fun _ _ z=>z.same s2⟩
def MP(A:Ad):Sp:=fun vs H Q E=>∃(d:Addr)(D:Dk)(W:Addr→Prop)(s f:Str),vs=[.ref d,.str s,.str f]∧iq A H d D W∧kT s∧Small D.made∧Inv D∧(s∉D.stores→E (.ref A.iL) none H)∧(s∈D.stores→∀p H',gj H H'→H p=none→C5 A H' p (gE (D.l6 s) f) (D.row s f)→Q (.ref p) H')
theorem mH(T:Txt mg)(O:Ok K mg A):ij P w K mg base (tK P w) 5 A.rg A.rh ["self","store","file"] (MP A):=by
 have xk:=@Bc P w K mg base A T O
 have wa:=@Bi P w K mg base A T O
 refine O.kj.f.qt wQ fun jl A0 outer s H vs Q E hr h=>?_
 obtain⟨d,D,W,st,f,rfl,X,hf,sm,I,qe,q⟩:=h
 obtain⟨π,x⟩:=id X
 refine⟨_,(fR (hE (uW O.Mw xk (hr.mono (by decide)) (by rfl) O.My O.sG.b .nil nU (a_ (AW bx (pv 0) O.gF O.rm wa hr (a_ (pv 1) d_)) (a_ (pv 2) d_))))),?_⟩
 refine⟨_,rfl,d,π.dx,_,rfl,x.hd,Bg,_,rfl,d,D,W,st,rfl,X,hf,sm.many,fun hs=>qe hs,fun hs a H1 s1 ha0 VN=>?_⟩
 refine⟨_,rfl,?_⟩
 intro p px np YD nxp
 have s2:gj H1 (upd (upd H1 px (.own p)) p (.ins A.hG px [])):=fun b o e=>by
  rw[e_ (gh e np),e_ (gh e YD)]
  exact e
 refine⟨p,px,a,D.l6 st,f,rfl,b_,VN.same s2,sm.sub (Inv.yQ st),I.nodup st f,I.closed hs f,I.Pu st f,fun H' k sg=>⟨rfl,?_⟩⟩
 exact q hs p H' (fun b o e=>k b o (s2 b o (s1 b o e)) (gh (s1 b o e) np)) (s1.free np) sg
theorem Kz{D:Dk}(I:Inv D)(s f:Str):∀l∈D.row s f,l.nm∈(gE (D.l6 s) f).map (·.nm):=fun l hl=>XE ((kQ _ f).subset ((I.pP s f).subset hl))
def P4(A:Ad):Sp:=fun vs H Q E=>∃(d:Addr)(D:Dk)(W:Addr→Prop)(s f:Str),vs=[.ref d,.str s,.str f]∧iq A H d D W∧kT s∧Small D.made∧Inv D∧(s∉D.stores→E (.ref A.iL) none H)∧(s∈D.stores→∀p H',gj H H'→H p=none→sU H' p (D.row s f)→Q (.ref p) H')
theorem KA(T:Txt mg)(O:Ok K mg A):ij P w K mg base (tK P w) 6 A.zW A.zX ["self","store","file"] (P4 A):=by
 have iR:=@mH P w K mg base A T O
 refine O.vM.f.qt xE fun jl A0 outer s H vs Q E hr h=>?_
 obtain⟨d,D,W,st,f,rfl,X,hf,sm,I,qe,q⟩:=h
 obtain⟨π,x⟩:=id X
 have sz:sizeLine=16777216:=aaw
 have DQ:(D.row st f).length≤4000:=XI (I.oH st f) sm.iB
 refine⟨_,(fR (hE (xx zN (f_ qG).names [3] rfl (ir (gC (AW bx (pv 0) O.gF O.kj iR hr (a_ (pv 1) (a_ (pv 2) d_))) rfl)) rfl (by decide+kernel) (fun _ _ _ _=>(iw (i:=3) xE.nd rfl (Or.inl rfl))) (fun _ _ _ _=>nV) (fun _ _ _ _=>AX (rM (a_ (j5 o9 (gC (pv 3) rfl) gc (fun _ _=>rfl)) (a_ (j5 o9 (gC (pv 3) rfl) gc (fun _ _=>rfl)) (a_ (gC (pv 3) rfl) d_)))))))),?_⟩
 refine⟨_,rfl,d,π.dx,_,rfl,x.hd,mG,_,rfl,_,rfl,d,D,W,st,f,rfl,X,hf,sm,I,fun hs=>qe hs,fun hs p H1 s1 qj ⟨px,ah,l,g1,g2,⟨as,g3,g4⟩⟩=>?_⟩
 have hlen:=aaj g4
 let Jv:=fun(i:Nat) (ys:List V) (σ:St) (H4:Hp)=>∃(v3:Option V),σ=[rr d,rs st,rs f,v3]∧gj H1 H4∧Paired (Ic H4) ys ((D.row st f).take i)
 refine⟨p,A.hG,px,_,_,rfl,g1,O.i3,O.ia,jE ah l,l,rfl,⟨_,gH.of g3⟩,kO (K:=K) (a:=l) (xs:=as.map V.ref) (by rw[TU];omega) Jv
  ⟨none,rfl,gj.refl _,.nil⟩ (by rintro _ _ _ _ _ ⟨_,_,e,e2⟩;exact⟨gH.of (e _ _ g3),by rw[aaj e2,aay];omega⟩) ?_ ?_⟩
 ·rintro i v ys σ H4 hx ⟨v3,rfl,s4,e2⟩
  obtain⟨b,hb,rfl⟩:=ke hx
  obtain⟨ln,uO,RA,vn,vu,vl,k1,⟨nt,rfl,k2⟩,k3,k4⟩:=iz g4 hb
  refine⟨_,rfl,b,A.hV,RA,_,_,rfl,s4 _ _ k1,O.iP,O.hU,i5,nt,_,_,_,rfl,rfl,rG.of (s4 _ _ k2),ic (j:=0) rfl rfl,?_⟩
  refine⟨_,rfl,b,A.hV,RA,_,_,rfl,s4 _ _ k1,O.iP,O.hU,i5,nt,_,_,_,rfl,rfl,rG.of (s4 _ _ k2),ic (j:=1) rfl rfl,?_⟩
  refine⟨_,rfl,b,A.hV,RA,_,_,rfl,s4 _ _ k1,O.iP,O.jM,Aa,L2.jA,fun t ht=>?_⟩
  have s5:=(gj.refl H4).new (o:=.tup [.str ln.nm.1,.int ln.nm.2,.str ln.tx]) ht
  refine⟨_,rfl,s4.trans s5,?_⟩
  rw[take_snoc uO]
  exact iA (Paired.kC e2 fun _ _ z=>z.same s5) ⟨t,rfl,b_⟩
 ·rintro ys σ H4 ⟨v3,rfl,s4,e2⟩ r pF
  rw[TU,hlen,aaq] at e2
  have s5:=(s1.trans s4).new (o:=.lst ys) pF
  exact q hs r _ s5 ((s1.trans s4).free pF) ⟨ys,b_,Paired.kC e2 fun _ _ z=>z.same ((gj.refl H4).new pF)⟩
def S3(A:Ad):Sp:=fun vs H Q E=>∃(d:Addr)(D:Dk)(W:Addr→Prop)(s f:Str),vs=[.ref d,.str s,.str f]∧iq A H d D W∧kT s∧Small D.made∧Inv D∧(s∉D.stores→E (.ref A.iL) none H)∧(s∈D.stores→∀p H' vs,gj H H'→H p=none→H' p=some (.lst vs)→iV H' (D.pO s f) vs→Q (.ref p) H')
theorem ym(T:Txt mg)(O:Ok K mg A):ij P w K mg base (tK P w) 6 A.rb A.rf ["self","store","file"] (S3 A):=by
 have iR:=@mH P w K mg base A T O
 have k8:=@sQ P w K mg base A T O
 refine O.mz.f.qt wO fun jl A0 outer s H vs Q E hr h=>?_
 obtain⟨d,D,W,st,f,rfl,X,hf,sm,I,qe,q⟩:=h
 obtain⟨π,x⟩:=id X
 have DQ:(D.row st f).length≤4000:=XI (I.oH st f) sm.iB
 refine⟨_,(fR (hE (uV (AW bx (pv 0) O.gF O.kj iR hr (a_ (pv 1) (a_ (pv 2) d_))) O.i3 O.jL.t k8 (hr.mono (by decide)) O.jL.b .nil nU))),?_⟩
 refine⟨_,rfl,d,π.dx,_,rfl,x.hd,mG,_,rfl,_,rfl,d,D,W,st,f,rfl,X,hf,sm,I,fun hs=>qe hs,fun hs p H1 s1 qj sg=>?_⟩
 obtain⟨px,ah,l,g1,g2,g3⟩:=id sg
 refine⟨p,px,_,rfl,g1,Ku ah l,p,_,_,rfl,sg,Kz I st f,DQ,fun r H2 vs s2 pF xj B8=>?_⟩
 exact q hs r H2 vs (s1.trans s2) (s1.free pF) xj B8
end
theorem sV{xs ys:List Str}(nd:xs.Nodup)(h:∀x∈xs,x∈ys):xs.length≤ys.length:=by
 have:=len_sub (xs:=xs.map fun k=>((k,0):Nm)) (ys:=ys.map fun k=>(k,0)) (List.pairwise_map.mpr (nd.imp fun h z=>h (aa6 Prod.fst z))) fun x hx=>by
  obtain⟨k,hk,rfl⟩:=List.mem_map.mp hx
  exact XE (h k hk)
 rwa [TU,TU] at this
section
variable{A:Ad}{H:Hp}{x:Addr}{o:HO}{kv:List (Key×V)}
theorem nc.dk{a:Addr}{l:Ln}(h:nc A H a l)(hx:H x=some (.dK kv)):nc A (L2.upd H x o) a l:=nc.upd h hx (fun _ z=>by cases z) (fun _ _ _ z=>by cases z)
theorem qL.dk{a:Addr}{ls:List Ln}(h:qL A H a ls)(hx:H x=some (.dK kv)):qL A (L2.upd H x o) a ls:=by
 obtain⟨as,h1,h2⟩:=h
 exact⟨as,by rw[e_ (i7 h1 hx (fun z=>by cases z))];exact h1,Paired.kC h2 fun _ _ z=>z.dk hx⟩
theorem Ab.dk{a:Addr}{ns:List Nm}(h:Ab H a ns)(hx:H x=some (.dK kv)):Ab (L2.upd H x o) a ns:=by
 obtain⟨vs,h1,h2⟩:=h
 exact⟨vs,by rw[e_ (i7 h1 hx (fun z=>by cases z))];exact h1,Paired.kC h2 fun _ _ z=>z.upd hx (fun _ z=>by cases z)⟩
theorem oz.dk{a:Addr}{p:Pt}(h:oz A H a p)(hx:H x=some (.dK kv)):oz A (L2.upd H x o) a p:=by
 obtain⟨dx,vf,pu,cu,vo,h0,h1,h2,h3,h4⟩:=h
 exact⟨dx,vf,pu,cu,vo,by rw[e_ (i7 h0 hx (fun z=>by cases z))];exact h0,h1,h2.dk hx,h3.dk hx,h4⟩
end
noncomputable def E4(l:List Str)(m:Str):List Str:=if m∈l then l else l++[m]
theorem E5{l:List Str}{m x:Str}:x∈E4 l m↔x∈l∨x=m:=by
 unfold E4
 split
 ·rename_i h
  exact⟨.inl,fun z=>z.elim id fun z=>z▸h⟩
 ·simp
theorem G4{l:List Str}{m:Str}(h:l.Nodup):(E4 l m).Nodup:=by
 unfold E4
 split
 ·exact h
 ·rename_i hm
  rw[aa3]
  exact⟨h,by simp,fun a ha b hb z=>hm (by rw[WG.mp hb] at z;exact z▸ha)⟩
theorem B1{dk:List (Key×V)}{l:List Str}(h:dk.map (·.1)=l.map sk)(m:Str)(v:V):(putK dk (sk m) v).map (·.1)=(E4 l m).map sk:=by
 rw[qc,h]
 unfold E4
 by_cases e:m∈l
 ·rw[aar (Al.mpr e),aar e]
 ·rw[aap (fun z=>e (Al.mp z)),aap e,aat];rfl
theorem B2:∀(more:List (Key×V))(dk:List (Key×V))(l r:List Str),dk.map (·.1)=l.map sk→more.map (·.1)=r.map sk→l.Nodup→∃l':List Str,(putAll dk more).map (·.1)=l'.map sk∧l'.Nodup∧∀m,m∈l'↔m∈l∨m∈r
 | [],dk,l,r,h1,h2,nd=>by
  have:r=[]:=by cases r with|nil=>rfl|cons _ _=>cases h2
  subst this
  exact⟨l,h1,nd,fun m=>by simp⟩
 | p::t,dk,l,r,h1,h2,nd=>by
  cases r with
  | nil=>cases h2
  | cons x r=>
   rw[aax,aax] at h2
   injection h2 with e1 e2
   rw[rP,e1]
   obtain⟨l',z1,z2,z3⟩:=B2 t (putK dk (sk x) p.2) (E4 l x) r (B1 h1 x _) e2 (G4 nd)
   refine⟨l',z1,z2,fun m=>?_⟩
   rw[z3 m,E5,Z8,or_assoc]
theorem Gg{kvs:List (Key×V)}{l:List Str}{x:Str}(h:kvs.map (·.1)=l.map sk):(jV kvs (sk x)).map (·.1)=(l.filter fun y=>y≠x).map sk:=by
 induction kvs generalizing l with
 | nil=>
  cases l with
  | nil=>rfl
  | cons _ _=>cases h
 | cons p r ih=>
  cases l with
  | nil=>cases h
  | cons y t=>
   rw[aax,aax] at h
   injection h with e1 e2
   by_cases e:y=x
   ·rw[wq (by rw[e1,e]),ih e2,aad (by simpa using e)]
   ·rw[wu (by rw[e1];exact fun z=>e (ack z)),aaa (by simpa using e),aax,aax,ih e2,e1]
noncomputable def xa(D:Dk)(s:Str)(l:List Str):Dk:=⟨D.made,D.iT,D.stores,fun t=>if t=s then l else D.held t⟩
theorem NQ.xa{A:Ad}{H:Hp}{d:Addr}{D:Dk}{W:Addr→Prop}{π:Dp}{s:Str}{l:List Str}{kv:List (Key×V)}(x:NQ A H d D W π)(hs:s∈D.stores)(hk:kv.map (·.1)=l.map sk):NQ A (upd H (π.ha s) (.dK kv)) d (PK.xa D s l) W π:=by
 obtain⟨v1,v2,v3,v4,v5,YE,v6,v7⟩:=x.vh s hs
 exact{
  hd:=by rw[e_ (i7 x.hd v6 (fun z=>by cases z))];exact x.hd
  hm:=by rw[e_ v3.symm];exact x.hm
  hn:=by rw[e_ v4.symm];exact x.hn
  hh:=by rw[e_ v5.symm];exact x.hh
  mn:=x.mn
  mh:=x.mh
  nh:=x.nh
  wm:=x.wm
  wn:=x.wn
  wh:=x.wh
  km:=x.km
  vm:=fun p hp=>by obtain⟨a,h1,h2⟩:=x.vm p hp;exact⟨a,h1,h2.dk v6⟩
  kn:=x.kn
  vn:=fun y hy=>by
   obtain⟨a,kv,l,h1,h2,h3,h4⟩:=x.vn y hy
   exact⟨a,kv,l,h1,h2,by rw[e_ (fun(z:a=π.ha s)=>h2 (by rw[z];exact v2))];exact h3,h4⟩
  kh:=x.kh
  vh:=fun t ht=>by
   obtain⟨h1,h2,h3,h4,h5,kv,h6,h7⟩:=x.vh t ht
   refine⟨h1,h2,h3,h4,h5,?_⟩
   show ∃kv:List (Key×V),_∧kv.map (·.1)=(if t=s then l else D.held t).map sk
   by_cases e:t=s
   ·subst e
    rw[aar rfl]
    exact⟨_,b_,hk⟩
   ·rw[aap e]
    exact⟨kv,by rw[e_ (fun z=>e (x.inj t ht s hs z))];exact h6,h7⟩
  inj:=x.inj
  dk:=fun b hb=>by
   by_cases e:b=π.ha s
   ·rw[e];exact⟨_,b_⟩
   ·obtain⟨kv,h⟩:=x.dk b hb;exact⟨kv,by rw[e_ e];exact h⟩}
section
variable{P:Program}{w:World}{K:Qqy}{mg:Qqx}{base:Heap}{A:Ad}
def MQ(A:Ad):Sp:=fun vs H Q E=>∃(d:Addr)(D:Dk)(W:Addr→Prop)(s:Str),vs=[.ref d,.str s]∧iq A H d D W∧kT s∧D.stores.length<1000∧(¬Good s→E (.ref A.jD) none H)∧(Good s→s∈D.stores→E (.ref A.ju) none H)∧
 (Good s→s∉D.stores→∀H' W',iq A H' d (D.begin s) W'→o7 W H H'→(∀b,W' b→W b∨H b=none)→Q .jm H')
theorem KC(T:Txt mg)(O:Ok K mg A):ij P w K mg base (tK P w) 2 A.vE A.vF ["self","store"] (MQ A):=by
 have qP:=@ud P w K mg base A T O
 refine O.zZ.f.qt A4 fun jl A0 outer s H vs Q E hr h=>?_
 obtain⟨d,D,W,st,rfl,X,hf,hlen,q1,q2,q3⟩:=h
 obtain⟨π,x⟩:=id X
 have sz:sizeLine=16777216:=aaw
 refine⟨_,(de (hX (WK bx O.uB qP hr (a_ (pv 1) d_)))
   (de (ik (i9 (nR (by exact iG hr) (pv 1) (gC (pv 0) rfl))) (fR (ki bx O.yl (by rfl) (lF (iu i8 (iu (mO (pv 1)) (iu i8 nY)))))) g_)
   (fR (jn (by exact iG hr) (gC (pv 0) rfl) (pv 1) nS rfl)))),?_⟩
 refine DO ?_;intro _ _
 refine⟨_,rfl,st,rfl,hf,fun g=>?_,fun ng=>q1 ng⟩
 refine⟨_,rfl,_,rfl,d,A.gm,π.dx,_,_,rfl,x.hd,O.gF,O.iy,k_ _ _ _,π.h,_,rfl,iZ.k (k:=sk st) x.hh,_,rfl,?_⟩
 rw[kq x.kh]
 by_cases hs:st∈D.stores
 ·rw[WM hs]
  refine kD ⟨_,rfl,by decide+kernel,⟨_,rfl,_,rfl,hf.1,_,rfl,hf.1,⟨_,rfl,by decide+kernel,fun _=>q2 g hs⟩⟩⟩
 ·rw[Z6 hs]
  refine i_ ?_
  intro p qj
  have fr:∀{b o},H b=some o→b≠p:=fun e=>gh e qj
  have Ud:(upd H p (.dK [])) π.h=some (.dK π.kH):=by rw[e_ (fr x.hh)];exact x.hh
  have IU:=ko x.kh
  refine⟨_,rfl,d,A.gm,π.dx,_,_,rfl,by rw[e_ (fr x.hd)];exact x.hd,O.gF,O.iy,k_ _ _ _,_,rfl,π.h,_,rfl,mK.k (k:=sk st) Ud (by omega),?_⟩
  have s1:gj H (upd H p (.dK [])):=(gj.refl H).new qj
  have up:∀{b o},H b=some o→b≠π.h→upd (upd H p (.dK [])) π.h (.dK (putK π.kH (sk st) (.ref p))) b=some o:=fun{b o} e n=>by rw[e_ n];exact s1 _ _ e
  have YF:p≠π.h:=(fr x.hh).symm
  refine q3 g hs _ (fun b=>W b∨b=p) ⟨⟨π.dx,π.m,π.n,π.h,fun t=>if t=st then p else π.ha t,π.kM,π.kN,putK π.kH (sk st) (.ref p)⟩,?_⟩ (fun b o e nw=>?_) (fun b hb=>?_)
  ·exact{
    hd:=up x.hd (i7 x.hd x.hh (fun z=>by cases z))
    hm:=up x.hm x.mh
    hn:=up x.hn x.nh
    hh:=b_
    mn:=x.mn
    mh:=x.mh
    nh:=x.nh
    wm:=.inl x.wm
    wn:=.inl x.wn
    wh:=.inl x.wh
    km:=x.km
    vm:=fun q hq=>by obtain⟨a,h1,h2⟩:=x.vm q hq;exact⟨a,h1,(h2.same s1).dk Ud⟩
    kn:=x.kn
    vn:=fun y hy=>by
     obtain⟨a,kv,l,h1,h2,h3,h4⟩:=x.vn y hy
     exact⟨a,kv,l,h1,fun z=>z.elim h2 (fr h3),up h3 (fun(z:a=π.h)=>h2 (by rw[z];exact x.wh)),h4⟩
    kh:=qd x.kh hs _
    vh:=fun t ht=>by
     show iI (putK π.kH (sk st) (.ref p)) (sk t)=some (.ref (if t=st then p else π.ha t))∧(W (if t=st then p else π.ha t)∨(if t=st then p else π.ha t)=p)∧(if t=st then p else π.ha t)≠π.m∧(if t=st then p else π.ha t)≠π.n∧(if t=st then p else π.ha t)≠π.h∧∃kv:List (Key×V),(upd (upd H p (.dK [])) π.h (.dK (putK π.kH (sk st) (.ref p)))) (if t=st then p else π.ha t)=some (.dK kv)∧kv.map (·.1)=(if t=st then[] else D.held t).map sk
     rw[jW]
     by_cases e:t=st
     ·subst e
      rw[aar rfl,aar rfl,aar rfl]
      exact⟨rfl,.inr rfl,(fr x.hm).symm,(fr x.hn).symm,YF,[],by rw[e_ YF];exact b_,rfl⟩
     ·have RD:t∈D.stores:=(Z3.mp ht).elim id fun z=>absurd (WG.mp z) e
      rw[aap (fun z=>e (ack z)),aap e,aap e]
      obtain⟨h1,h2,h3,h4,h5,kv,h6,h7⟩:=x.vh t RD
      exact⟨h1,.inl h2,h3,h4,h5,kv,up h6 h5,h7⟩
    inj:=fun t ht u hu e=>by
     have e:(if t=st then p else π.ha t)=(if u=st then p else π.ha u):=e
     by_cases e1:t=st
     ·by_cases e2:u=st
      ·rw[e1,e2]
      ·have DU:u∈D.stores:=(Z3.mp hu).elim id fun z=>absurd (WG.mp z) e2
       rw[aar e1,aap e2] at e
       obtain⟨_,_,_,_,_,kv,h6,_⟩:=x.vh u DU
       exact absurd e.symm (fr h6)
     ·have RD:t∈D.stores:=(Z3.mp ht).elim id fun z=>absurd (WG.mp z) e1
      by_cases e2:u=st
      ·rw[aap e1,aar e2] at e
       obtain⟨_,_,_,_,_,kv,h6,_⟩:=x.vh t RD
       exact absurd e (fr h6)
      ·have DU:u∈D.stores:=(Z3.mp hu).elim id fun z=>absurd (WG.mp z) e2
       rw[aap e1,aap e2] at e
       exact x.inj t RD u DU e
    dk:=fun b hb=>by
     by_cases e:b=π.h
     ·rw[e];exact⟨_,b_⟩
     ·rcases hb with hb|hb
      ·obtain⟨kv,h⟩:=x.dk b hb;exact⟨kv,up h e⟩
      ·rw[hb];exact⟨[],by rw[e_ YF];exact b_⟩}
  ·exact up e (fun(z:b=π.h)=>nw (by rw[z];exact x.wh))
  ·rcases hb with hb|hb
   ·exact .inl hb
   ·rw[hb];exact .inr qj
def S4(A:Ad):Sp:=fun vs H Q E=>∃(d l:Addr)(D:Dk)(W:Addr→Prop)(x:Str)(fs:List Str),vs=[.ref d,.str x,.ref l]∧iq A H d D W∧H l=some (.lst (gp fs))∧fs.length≤1000∧(∀y∈x::fs,kT y)∧
 ((¬∀y∈x::fs,Good y)→∀H',gj H H'→E (.ref A.jD) none H')∧((∀y∈x::fs,Good y)→x∈D.names→∀H',gj H H'→E (.ref A.ju) none H')∧((∀y∈x::fs,Good y)→x∉D.names→∀H',gj H H'→Q .jm H')
theorem qO(T:Txt mg)(O:Ok K mg A):ij P w K mg base (tK P w) 2 A.p8 A.p9 ["self","patch","files"] (S4 A):=by
 have qP:=@ud P w K mg base A T O
 refine O.lV.f.qt oP fun jl A0 outer s H vs Q E hr h=>?_
 obtain⟨d,l,D,W,y,fs,rfl,X,hl,YG,Ol,q1,q2,q3⟩:=h
 obtain⟨π,x⟩:=id X
 have sz:sizeLine=16777216:=aaw
 refine⟨_,(de (il JH rfl (ir (gr nQ (iO (a_ (pv 1) d_)) (pv 2))) (qY 3 oP) (fR (hX (WK bx O.uB qP hr (a_ (pv 3) d_)))))
   (fR (ik (i9 (nR (by exact iG hr) (pv 1) (gC (pv 0) rfl))) (fR (ki bx O.yl (by rfl) (lF (iu i8 (iu (mO (pv 1)) (iu i8 nY)))))) g_))),?_⟩
 refine LD ?_;intro _
 refine⟨_,rfl,L2.jA,fun a ha=>?_⟩
 have s1:gj H (upd H a (.lst [V.str y])):=(gj.refl H).new ha
 refine⟨_,rfl,a,l,_,_,rfl,rfl,b_,s1 _ _ hl,by rw[TU];show 1+_≤_;omega,fun b hb=>?_⟩
 have s2:=s1.new (o:=.lst ([V.str y]++gp fs)) hb
 have IL:(upd (upd H a (.lst [V.str y])) b (.lst ([V.str y]++gp fs))) b=some (.lst (gp (y::fs))):=b_
 generalize upd (upd H a (.lst [V.str y])) b (.lst ([V.str y]++gp fs))=H2 at s2 IL
 let Jv:=fun(i:Nat) (σ:St) (H3:Hp)=>∃v,σ=[rr d,rs y,rr l,v]∧H3=H2∧∀z∈(y::fs).take i,Good z
 refine⟨b,rfl,⟨_,gH.of IL⟩,iM (K:=K) (a:=b) (xs:=gp (y::fs)) Jv ⟨none,rfl,rfl,fun z hz=>by rw[abE] at hz;cases hz⟩ (by rintro _ _ _ _ ⟨_,_,e,_⟩;rw[e];exact gH.of IL) ?_ ?_⟩
 ·rintro i v σ H3 hx ⟨v0,rfl,rfl,hg⟩
  obtain⟨z,hz,rfl⟩:=mv hx
  refine⟨_,rfl,z,rfl,Ol z (WI hz),fun g=>?_,fun ng=>q1 (fun h=>ng (h z (WI hz))) _ s2⟩
  refine⟨_,rfl,rfl,fun t ht=>?_⟩
  rw[take_snoc hz] at ht
  rcases Z3.mp ht with ht|ht
  ·exact hg t ht
  ·rw[WG.mp ht];exact g
 ·rintro σ H3 ⟨v0,rfl,rfl,hg⟩
  rw[TU,aaq] at hg
  refine⟨_,rfl,_,rfl,d,A.gm,π.dx,_,_,rfl,s2 _ _ x.hd,O.gF,O.i4,qf _ _ _,π.m,_,rfl,iZ.k (k:=sk y) (s2 _ _ x.hm),_,rfl,?_⟩
  rw[kq x.km]
  have hf:=Ol y aal
  by_cases hm:y∈D.names
  ·rw[WM hm]
   exact kD ⟨_,rfl,by decide+kernel,⟨_,rfl,_,rfl,hf.1,_,rfl,hf.1,⟨_,rfl,by decide+kernel,fun _=>q2 hg hm _ s2⟩⟩⟩
  ·rw[Z6 hm]
   exact q3 hg hm _ s2
def MR(A:Ad):Sp:=fun vs H Q E=>∃(d:Addr)(D:Dk)(W:Addr→Prop)(s:Str),vs=[.ref d,.str s]∧iq A H d D W∧kT s∧uN D.made.length∧(s∉D.names→E (.ref A.jZ) none H)∧(s∈D.names→∀p,H p=none→Q (.ref p) (upd H p (.lst (gp (D.n5 s)))))
theorem KD(T:Txt mg)(O:Ok K mg A):ij P w K mg base (tK P w) 2 A.vG A.vH ["self","patch"] (MR A):=by
 have wb:=@Bh P w K mg base A T O
 refine O.z_.f.qt tW fun jl A0 outer s H vs Q E hr h=>?_
 obtain⟨d,D,W,st,rfl,X,hf,jA,qe,q⟩:=h
 obtain⟨π,x⟩:=id X
 have v_:D.made.length≤4000:=jA
 have sz:sizeLine=16777216:=aaw
 refine⟨_,(de (hX (AW bx (pv 0) O.gF O.rn wb hr (a_ (pv 1) d_)))
   (fR (hE (GO (zm vt (f_ nI).names [2] rfl (Ct (gC (pv 0) rfl)) rfl (by decide+kernel) (fun _ _ _ _=>(iw (i:=2) tW.nd rfl (Or.inl rfl))) (fun _ _ _ _=>⟨_,mL (i9 (nR (by exact iG hr) (pv 2) (zz hr (gC (pv 0) rfl) (pv 1)))),by(try simp only [ku]);rfl⟩) (fun _ _ _ _=>AX (pv 2))))))),?_⟩
 refine LD ?_;intro _
 refine⟨_,rfl,d,π.dx,_,rfl,x.hd,Bf,_,rfl,d,D,W,st,rfl,X,hf,fun hs=>?_,fun hs=>qe hs⟩
 obtain⟨a,kv,l,v1,hnw,v2,v3,_,v4⟩:=x.vn st hs
 have rB:a≠π.m:=fun z=>hnw (by rw[z];exact x.wm)
 refine⟨_,rfl,d,A.gm,π.dx,_,_,rfl,x.hd,O.gF,O.i4,qf _ _ _,π.m,π.kM,rfl,x.hm,fun o uz=>?_⟩
 have IU:=ko x.km
 have QI:D.names.length=D.made.length:=by unfold Dk.names;rw[TU]
 have RC:d≠π.m:=i7 x.hd x.hm (fun z=>by cases z)
 have f:∀{b u},H b=some u→b≠π.m→upd H π.m (.nq o (.dK π.kM)) b=some u:=fun{b u} e n=>by rw[e_ n];exact e
 refine GQ (by omega) (fun i ys σ H3=>∃(v2:Option V)(zs:List Str),σ=[rr d,rs st,v2]∧H3=upd H π.m (.nq o (.dK π.kM))∧ys=gp zs∧zs=(D.names.take i).filter fun x=>x∈D.iT st) ⟨none,[],rfl,rfl,rfl,rfl⟩ (fun i ys σ H3 ⟨_,zs,_,e,e2,e3⟩=>?_) ?_ ?_
 ·rw[e,e2,e3]
  refine⟨b_,?_⟩
  rw[TU]
  exact XI (aaE _ _) (by rw[aay];omega)
 ·rintro i k v ys σ H3 hi ⟨v0,zs,rfl,rfl,rfl,e3⟩
  obtain⟨y,hy,rfl⟩:=w_ x.km hi
  refine⟨_,rfl,_,rfl,d,A.gm,π.dx,_,_,rfl,f x.hd RC,O.gF,O.jd,tF _ _ _,_,rfl,π.n,.ref a,rfl,?_,a,_,rfl,iZ.k (k:=sk y) (f v2 rB),_,rfl,?_⟩
  ·have:=iZ.k (k:=sk st) (f x.hn x.mn.symm)
   rw[v1] at this
   exact this
  ·rw[kq v3,take_snoc hy,aaB]
   by_cases hm:y∈D.iT st
   ·rw[WM ((v4 y).mpr hm)]
    refine kD ⟨_,rfl,_,_,rfl,rfl,jv _ _,?_⟩
    rw[e3,aaa (by simpa using hm),aaP]
   ·rw[Z6 (fun z=>hm ((v4 y).mp z))]
    refine i_ ⟨_,_,rfl,rfl,rfl,?_⟩
    rw[e3,aad (by simpa using hm),aaP,aaK]
 ·rintro ys σ H3 ⟨v0,zs,rfl,rfl,rfl,e3⟩ p qj
  rw[IU,aaq] at e3
  have Gx:p≠π.m:=fun z=>by rw[z,b_] at qj;cases qj
  have Gv:H p=none:=by rw[e_ Gx] at qj;exact qj
  refine⟨π.m,o,_,by rw[e_ Gx.symm];exact b_,uz,?_⟩
  rw[Cs x.hm Gx]
  have:=q hs p Gv
  unfold Dk.n5 at this
  rw[←e3] at this
  exact this
def P5(A:Ad):Sp:=fun vs H Q _=>∃(d a:Addr)(D:Dk)(W:Addr→Prop)(s:Str)(p:Pt),vs=[.ref d,.str s,.ref a]∧iq A H d D W∧Inv D∧uN D.made.length∧s∈D.stores∧oz A H a p∧p.nm∉D.names∧uN p.iB.length∧uN p.j9.length∧(∀y∈iJ p,y∈D.names)∧
 ∀H',iq A H' d (D.keep s p) W→o7 W H H'→Q .jm H'
theorem C_(p:Pt):(iJ p).length≤p.j9.length+2*p.iB.length+1:=by
 unfold iJ
 rw[W4,TU]
 have h1:=aaE (fun n:Nm=>decide (n.1≠p.nm)) (named p)
 have h2:=B0 p
 have h3:p.other.toList.length≤1:=by cases p.other<;>simp
 omega
theorem Dc(T:Txt mg)(O:Ok K mg A):ij P w K mg base mr 3 A.xX A.xY ["self","store","patch"] (P5 A):=by
 have tP:=@sR P w K mg base A T O
 refine O.tw.f.qr qJ fun jl A0 outer s H vs Q E hr h=>?_
 obtain⟨d,a,D,W,st,p,rfl,X,I,jA,hs,LO,fresh,Gw,Fd,rE,q⟩:=h
 obtain⟨π,x⟩:=id X
 have v_:D.made.length≤4000:=jA
 have Og:p.iB.length≤4000:=Gw
 have Lk:p.j9.length≤4000:=Fd
 have sz:sizeLine=16777216:=aaw
 have QI:D.names.length=D.made.length:=by unfold Dk.names;rw[TU]
 have K9:=C_ p
 refine⟨_,(de (kW 3 qJ nS)
   (de (il aam rfl (ir (o_ O.o6 tP hr (a_ (pv 2) d_))) (qY 4 qJ) (de (jn (by exact iG hr) (pv 3) (pv 4) j4 rfl)
   (fR (hX (JZ (pv 3) (zz hr (gC (pv 0) rfl) (pv 4)) ⟨rfl,rfl,rfl,rfl⟩)))))
   (de (jn (by exact iG hr) (gC (pv 0) rfl) (gC (pv 2) rfl) (pv 3) rfl)
   (de (jn (by exact iG hr) (gC (pv 0) rfl) (gC (pv 2) rfl) (pv 2) rfl)
   (fR (jn (by exact iG hr) (zz hr (gC (pv 0) rfl) (pv 1)) (gC (pv 2) rfl) j4 rfl)))))),?_⟩
 refine Pc ?_;intro _ _ _ _
 intro nd Qx
 have s1:gj H (upd H nd (.dK [])):=(gj.refl H).new Qx
 have QP:(upd H nd (.dK [])) nd=some (.dK []):=b_
 generalize upd H nd (.dK [])=H1 at s1 QP
 refine⟨_,rfl,a,p,rfl,LO.same s1,Gw,Fd,fun r H2 s2 pF xj=>?_⟩
 have Dq:=s1.trans s2
 have hrn:r≠nd:=fun z=>by rw[z,QP] at pF;cases pF
 have VO:¬W nd:=X.jm Qx
 let Jv:=fun(i:Nat) (σ:St) (H3:Hp)=>∃(v:Option V)(kv:List (Key×V))(l:List Str),σ=[rr d,rs st,rr a,rr nd,v]∧(∀b o,H2 b=some o→b≠nd→H3 b=some o)∧H3 nd=some (.dK kv)∧kv.map (·.1)=l.map sk∧l.Nodup∧∀y,y∈l↔∃z∈(iJ p).take i,y=z∨y∈D.iT z
 refine⟨r,rfl,⟨_,gH.of xj⟩,iM (K:=K) (a:=r) (xs:=gp (iJ p)) Jv
  ⟨none,[],[],rfl,fun b o e _=>e,s2 _ _ QP,rfl,abp,fun y=>by simp⟩ (by rintro _ _ _ _ ⟨_,_,_,_,e,_⟩;exact gH.of (e _ _ xj hrn)) ?_ ?_⟩
 ·rintro i v σ H3 hx ⟨v0,kv,l,rfl,e1,e2,e3,e4,e5⟩
  obtain⟨z,hz,rfl⟩:=mv hx
  have Nt:z∈iJ p:=WI hz
  have UB:z∈D.names:=rE z Nt
  obtain⟨az,kz,lz,z1,z2,z3,z4,z5,z6⟩:=x.vn z UB
  have Br:∀y∈l,y∈D.names:=fun y hy=>by
   obtain⟨t,ht,h⟩:=(e5 y).mp hy
   have htn:=rE t (List.mem_of_mem_take ht)
   rcases h with h|h
   ·rw[h];exact htn
   ·exact I.yR htn h
  have Vz:=sV e4 Br
  have hlz:=sV z5 fun y hy=>I.yR UB ((z6 y).mp hy)
  have IU:=ko e3
  have hkz:=ko z4
  have hlk:=jf kv (sk z) (V.bl true)
  have YH:az≠nd:=fun e=>by rw[e,Qx] at z3;cases z3
  refine⟨_,rfl,_,rfl,nd,_,rfl,mK.k (k:=sk z) e2 (by omega),?_⟩
  have up:∀{b o},H b=some o→upd H3 nd (.dK (putK kv (sk z) (V.bl true))) b=some o:=fun{b o} e=>by
   have n:b≠nd:=fun z=>by rw[z,Qx] at e;cases e
   rw[e_ n];exact e1 _ _ (Dq _ _ e) n
  refine⟨_,rfl,nd,rfl,.inl ⟨_,.inl b_⟩,_,rfl,d,A.gm,π.dx,_,_,rfl,up x.hd,O.gF,O.jd,tF _ _ _,_,rfl,π.n,.ref az,rfl,?_,az,_,kz,rfl,b_,.inl (up z3),YH.symm,by omega,?_⟩
  ·have:=iZ.k (k:=sk z) (up x.hn)
   rw[z1] at this
   exact this
  ·obtain⟨l',w1,w2,w3⟩:=B2 kz _ (E4 l z) lz (B1 e3 z (V.bl true)) z4 (G4 e4)
   refine⟨_,_,l',rfl,fun b o e n=>by rw[e_ n,e_ n];exact e1 b o e n,b_,w1,w2,fun y=>?_⟩
   rw[w3 y,E5,e5 y,z6 y,take_snoc hz]
   constructor
   ·rintro((⟨t,ht,h⟩|h)|h)
    ·exact⟨t,aas _ ht,h⟩
    ·exact⟨z,by simp,.inl h⟩
    ·exact⟨z,by simp,.inr h⟩
   ·rintro⟨t,ht,h⟩
    rcases Z3.mp ht with ht|ht
    ·exact .inl (.inl ⟨t,ht,h⟩)
    ·rw[WG.mp ht] at h
     exact h.elim (fun h=>.inl (.inr h)) .inr
 ·rintro σ H3 ⟨v0,kv,l,rfl,e1,e2,e3,e4,e5⟩
  rw[TU,aaq] at e5
  have s3:gj H H3:=fun b o e=>e1 b o (Dq _ _ e) (fun z=>by rw[z,Qx] at e;cases e)
  obtain⟨dx,vf,pu,cu,vo,g1,g2⟩:=LO.same s3
  have y:=x.same s3
  have hnM:=ko x.km
  have hnN:=ko x.kn
  obtain⟨v1,v2,v3,v4,v5,YE,v6,v7⟩:=y.vh st hs
  have hkv0:=ko v7
  have hhl:=sV (I.u_ st hs) fun t ht=>(I.l7 st hs t ht).1
  refine⟨_,rfl,_,rfl,d,A.gm,π.dx,_,_,rfl,y.hd,O.gF,O.jd,tF _ _ _,_,rfl,a,A.hZ,dx,_,_,rfl,g1,O.js,O.iX,sJ,π.n,_,rfl,mK.k (k:=sk p.nm) y.hn (by omega),?_⟩
  have f1:∀{b o},H3 b=some o→b≠π.n→upd H3 π.n (.dK (putK π.kN (sk p.nm) (.ref nd))) b=some o:=fun{b o} e n=>by rw[e_ n];exact e
  have LL:d≠π.n:=i7 y.hd y.hn (fun z=>by cases z)
  have han:a≠π.n:=i7 g1 y.hn (fun z=>by cases z)
  have RC:d≠π.m:=i7 y.hd y.hm (fun z=>by cases z)
  have ham:a≠π.m:=i7 g1 y.hm (fun z=>by cases z)
  refine⟨_,rfl,_,rfl,d,A.gm,π.dx,_,_,rfl,f1 y.hd LL,O.gF,O.i4,qf _ _ _,_,rfl,a,A.hZ,dx,_,_,rfl,f1 g1 han,O.js,O.iX,sJ,π.m,_,rfl,mK.k (k:=sk p.nm) (f1 y.hm x.mn) (by omega),?_⟩
  have f2:∀{b o},H3 b=some o→b≠π.n→b≠π.m→upd (upd H3 π.n (.dK (putK π.kN (sk p.nm) (.ref nd)))) π.m (.dK (putK π.kM (sk p.nm) (.ref a))) b=some o:=fun{b o} e n m=>by rw[e_ m];exact f1 e n
  refine⟨_,rfl,d,A.gm,π.dx,_,_,rfl,f2 y.hd LL RC,O.gF,O.iy,k_ _ _ _,_,rfl,π.h,.ref (π.ha st),rfl,?_,_,rfl,a,A.hZ,dx,_,_,rfl,f2 g1 han ham,O.js,O.iX,sJ,π.ha st,_,rfl,mK.k (k:=sk p.nm) (f2 v6 v4 v3) (by omega),?_⟩
  ·have:=iZ.k (k:=sk st) (f2 y.hh x.nh.symm x.mh.symm)
   rw[v1] at this
   exact this
  ·have hpn:p.nm∉D.held st:=fun z=>fresh (I.l7 st hs _ z).1
   have f3:∀{b o},H3 b=some o→b≠π.n→b≠π.m→b≠π.ha st→upd (upd (upd H3 π.n (.dK (putK π.kN (sk p.nm) (.ref nd)))) π.m (.dK (putK π.kM (sk p.nm) (.ref a)))) (π.ha st) (.dK (putK YE (sk p.nm) (V.bl true))) b=some o:=fun{b o} e n m h=>by rw[e_ h];exact f2 e n m
   have f4:∀{b q},oz A H3 b q→oz A (upd (upd (upd H3 π.n (.dK (putK π.kN (sk p.nm) (.ref nd)))) π.m (.dK (putK π.kM (sk p.nm) (.ref a)))) (π.ha st) (.dK (putK YE (sk p.nm) (V.bl true)))) b q:=fun z=>((z.dk y.hn).dk (f1 y.hm x.mn)).dk (f2 v6 v4 v3)
   have nW:∀{b},¬W b→b≠π.n∧b≠π.m∧b≠π.ha st:=fun{b} h=>⟨fun z=>h (by rw[z];exact x.wn),fun z=>h (by rw[z];exact x.wm),fun z=>h (by rw[z];exact v2)⟩
   refine q _ ⟨{π with kM:=putK π.kM (sk p.nm) (.ref a),kN:=putK π.kN (sk p.nm) (.ref nd)},?_⟩ fun b o e n=>f3 (s3 _ _ e) (nW n).1 (nW n).2.1 (nW n).2.2
   have Gz:(D.keep st p).names=D.names++[p.nm]:=by
    show(D.made++[p]).map (·.nm)=_
    rw[aat];rfl
   exact{
    hd:=f3 y.hd LL RC (i7 y.hd v6 (fun z=>by cases z))
    hm:=by
     show upd _ (π.ha st) _ π.m=_
     rw[e_ v3.symm];exact b_
    hn:=by
     show upd _ (π.ha st) _ π.n=_
     rw[e_ v4.symm,e_ x.mn.symm];exact b_
    hh:=f3 y.hh x.nh.symm x.mh.symm v5.symm
    mn:=x.mn
    mh:=x.mh
    nh:=x.nh
    wm:=x.wm
    wn:=x.wn
    wh:=x.wh
    km:=by rw[Gz];exact qd x.km fresh _
    vm:=fun q hq=>by
     show ∃b,iI (putK π.kM (sk p.nm) (.ref a)) (sk q.nm)=some (.ref b)∧_
     rw[jW]
     rcases Z3.mp hq with hq|hq
     ·obtain⟨b,w1,w2⟩:=y.vm q hq
      have rB:q.nm≠p.nm:=fun z=>fresh (by rw[←z];exact XE hq)
      rw[aap (fun z=>rB (ack z))]
      exact⟨b,w1,f4 w2⟩
     ·rw[WG.mp hq,aar rfl]
      exact⟨a,rfl,f4 (LO.same s3)⟩
    kn:=by rw[Gz];exact qd x.kn fresh _
    vn:=fun t ht=>by
     rw[Gz] at ht
     show ∃(b:Addr)(kv:List (Key×V))(l:List Str),iI (putK π.kN (sk p.nm) (.ref nd)) (sk t)=some (.ref b)∧¬W b∧_∧kv.map (·.1)=l.map sk∧l.Nodup∧∀u,u∈l↔u∈(if t=p.nm then tm D.iT p else D.iT t)
     rw[jW]
     by_cases e:t=p.nm
     ·rw[aar (by rw[e]),aar e]
      refine⟨nd,kv,l,rfl,VO,f3 e2 (nW VO).1 (nW VO).2.1 (nW VO).2.2,e3,e4,fun u=>?_⟩
      rw[e5 u]
      unfold tm
      rw[aa_]
      exact⟨fun⟨z,h1,h2⟩=>⟨z,h1,Z8.mpr h2⟩,fun⟨z,h1,h2⟩=>⟨z,h1,Z8.mp h2⟩⟩
     ·rw[aap (fun z=>e (ack z)),aap e]
      have RD:t∈D.names:=(Z3.mp ht).elim id fun z=>absurd (WG.mp z) e
      obtain⟨b,YI,l',w1,w2,w3,w4⟩:=y.vn t RD
      exact⟨b,YI,l',w1,w2,f3 w3 (nW w2).1 (nW w2).2.1 (nW w2).2.2,w4⟩
    kh:=x.kh
    vh:=fun t ht=>by
     obtain⟨h1,h2,h3,h4,h5,YI,h6,h7⟩:=y.vh t ht
     refine⟨h1,h2,h3,h4,h5,?_⟩
     show ∃kv:List (Key×V),_∧kv.map (·.1)=(if t=st then D.held st++[p.nm] else D.held t).map sk
     by_cases e:t=st
     ·subst e
      rw[aar rfl]
      exact⟨_,b_,qd v7 hpn _⟩
     ·rw[aap e]
      exact⟨YI,f3 h6 h4 h3 (fun z=>e (x.inj t ht st hs z)),h7⟩
    inj:=x.inj
    dk:=fun b hb=>by
     by_cases h1:b=π.ha st
     ·rw[h1];exact⟨_,b_⟩
     ·by_cases h2:b=π.m
      ·rw[h2,e_ v3.symm];exact⟨_,b_⟩
      ·by_cases h3:b=π.n
       ·rw[h3,e_ v4.symm,e_ x.mn.symm];exact⟨_,b_⟩
       ·obtain⟨kv,h⟩:=y.dk b hb
        exact⟨kv,f3 h h3 h2 h1⟩}
theorem Ie(D:Dk)(s x:Str):D.take s x=xa D s (D.held s++D.n6 s x):=rfl
theorem Ig(D:Dk)(s x:Str):D.drop s x=xa D s ((D.held s).filter fun y=>y≠x):=rfl
theorem Ih(D:Dk)(s:Str)(l l':List Str):xa (xa D s l) s l'=xa D s l':=by
 unfold xa
 congr 1
 funext t
 show(if t=s then l' else(if t=s then l else D.held t))=_
 by_cases e:t=s
 ·rw[aar e,aar e]
 ·rw[aap e,aap e,aap e]
theorem Ii(D:Dk)(s:Str):xa D s (D.held s)=D:=by
 cases D
 unfold xa
 congr 1
 funext t
 show(if t=s then _ else _)=_
 by_cases e:t=s
 ·rw[aar e,e]
 ·rw[aap e]
def P6(A:Ad):Sp:=fun vs H Q E=>∃(d:Addr)(D:Dk)(W:Addr→Prop)(s c x:Str),vs=[.ref d,.str s,.str c,.str x]∧iq A H d D W∧Inv D∧uN D.made.length∧kT s∧kT c∧kT x∧
 (s∉D.stores→E (.ref A.iL) none H)∧(s∈D.stores→c∉D.stores→E (.ref A.iL) none H)∧(s∈D.stores→c∈D.stores→x∉D.held c→E (.ref A.jZ) none H)∧
 (s∈D.stores→c∈D.stores→x∈D.held c→∀p H1 H',gj H H1→H1 p=none→H' p=some (.lst (gp (D.n6 s x)))→iq A H' d (D.take s x) W→o7 W (upd H1 p (.lst (gp (D.n6 s x)))) H'→Q (.ref p) H')
theorem Gh{D:Dk}(I:Inv D){s x:Str}(hx:x∈D.names):(D.n6 s x).Nodup∧∀y∈D.n6 s x,y∈D.names∧y∉D.held s:=by
 refine⟨?_,fun y hy=>?_⟩
 ·refine ab7 aaO ?_
  rw[aa3]
  refine⟨ab7 aaO I.nd,by simp,fun a ha b hb z=>?_⟩
  rw[WG.mp hb] at z
  subst z
  exact I.BL hx (aak (aao.mp ha).2)
 ·obtain⟨h1,h2⟩:=aao.mp hy
  refine⟨?_,aak h2⟩
  rcases Z3.mp h1 with h|h
  ·exact(aao.mp h).1
  ·rw[WG.mp h];exact hx
theorem G5(T:Txt mg)(O:Ok K mg A):ij P w K mg base (tK P w) 3 A.xR A.xS ["self","store","source","patch"] (P6 A):=by
 have ig:=@j0 P w K mg base A T O
 have jN:=@pw P w K mg base A T O
 have Dr:=@KD P w K mg base A T O
 refine O.wV.f.qt lN fun jl A0 outer s H vs Q E hr h=>?_
 obtain⟨d,D,W,st,c,y,rfl,X,I,jA,hf,hfc,Gy,q1,q2,q3,q4⟩:=h
 obtain⟨π,x⟩:=id X
 have v_:D.made.length≤4000:=jA
 have sz:sizeLine=16777216:=aaw
 have QI:D.names.length=D.made.length:=by unfold Dk.names;rw[TU]
 refine⟨_,(de (hX (AW bx (pv 0) O.gF O.iU ig hr (a_ (pv 1) d_)))
   (de (hX (AW bx (pv 0) O.gF O.iU ig hr (a_ (pv 2) d_)))
   (de (hX (AW bx (pv 0) O.gF O.lj jN hr (a_ (pv 2) (a_ (pv 3) d_))))
   (de (kW 4 lN (gr nQ (AW bx (pv 0) O.gF O.z_ Dr hr (a_ (pv 3) d_)) (iO (a_ (pv 3) d_))))
   (de (uk (j:=5) xD (f_ oJ).names [6] lN.nd rfl rfl rfl (ir (pv 4)) rfl (by decide+kernel) (fun _ _ _ _=>(iw (i:=6) lN.nd rfl (Or.inl rfl))) (fun _ _ _ _=>⟨_,mL (i9 (jX (by exact iG hr) (pv 6) (zz hr (gC (pv 0) rfl) (pv 1)))),by(try simp only [ku]);rfl⟩) (fun _ _ _ _=>AX (pv 6)))
   (de (il JH rfl (ir (pv 5)) (qY 6 lN) (fR (jn (by exact iG hr) (zz hr (gC (pv 0) rfl) (pv 1)) (pv 6) j4 rfl)))
   (fR (hE (pv 5))))))))),?_⟩
 refine Z5 ?_;intro _ _ _ _ _ _
 refine⟨_,rfl,d,π.dx,_,rfl,x.hd,jz,_,rfl,d,D,W,st,rfl,X,hf,fun hs=>?_,fun hs=>q1 hs⟩
 refine⟨_,rfl,d,π.dx,_,rfl,x.hd,jz,_,rfl,d,D,W,c,rfl,X,hfc,fun hc=>?_,fun hc=>q2 hs hc⟩
 refine⟨_,rfl,d,π.dx,_,rfl,x.hd,pq,_,rfl,_,rfl,d,D,W,c,y,rfl,X,hfc,Gy,hc,fun hy=>?_,fun hy=>q3 hs hc hy⟩
 have hyn:y∈D.names:=(I.l7 c hc y hy).1
 have Vz:(D.n5 y).length≤D.names.length:=aaE _ _
 refine⟨_,rfl,d,π.dx,_,rfl,x.hd,Kw,_,rfl,d,D,W,y,rfl,X,Gy,jA,fun h=>absurd hyn h,fun _ p qj=>?_⟩
 have s1:=(gj.refl H).new (o:=.lst (gp (D.n5 y))) qj
 refine⟨_,rfl,L2.jA,fun b hb=>?_⟩
 have s2:=s1.new (o:=.lst [V.str y]) hb
 refine⟨p,b,_,_,rfl,rfl,ie hb b_,b_,by rw[TU];show _+1≤_;omega,fun wt Rw=>?_⟩
 have s3:=s2.new (o:=.lst (gp (D.n5 y)++[V.str y])) Rw
 have YJ:(upd (upd (upd H p (.lst (gp (D.n5 y)))) b (.lst [V.str y])) wt (.lst (gp (D.n5 y)++[V.str y]))) wt=some (.lst (gp (D.n5 y++[y]))):=by rw[b_,jv]
 generalize upd (upd (upd H p (.lst (gp (D.n5 y)))) b (.lst [V.str y])) wt (.lst (gp (D.n5 y)++[V.str y]))=H3 at s3 YJ
 have x3:=x.same s3
 obtain⟨v1,v2,v3,v4,v5,kv,v6,v7⟩:=x3.vh st hs
 refine⟨_,rfl,wt,rfl,⟨_,gH.of YJ⟩,kO (K:=K) (a:=wt) (xs:=gp (D.n5 y++[y])) (by rw[TU,W4];show _+1≤_;omega) (fun i ys σ H4=>∃(v6:Option V)(zs:List Str),σ=[rr d,rs st,rs c,rs y,rr wt,none,v6]∧H4=H3∧ys=gp zs∧zs.length≤i∧zs=((D.n5 y++[y]).take i).filter fun z=>z∉D.held st)
  ⟨none,[],rfl,rfl,rfl,WL _,rfl⟩ (by rintro _ _ _ _ _ ⟨_,zs,_,e,e2,e3,_⟩;rw[e,e2];exact⟨gH.of YJ,by rw[TU];exact e3⟩) ?_ ?_⟩
 ·rintro i v ys σ H4 hx ⟨YK,zs,rfl,rfl,rfl,e3,e4⟩
  obtain⟨z,hz,rfl⟩:=mv hx
  refine⟨_,rfl,_,rfl,d,A.gm,π.dx,_,_,rfl,x3.hd,O.gF,O.iy,k_ _ _ _,_,rfl,π.h,.ref (π.ha st),rfl,?_,π.ha st,_,rfl,iZ.k (k:=sk z) v6,_,rfl,?_⟩
  ·have:=iZ.k (k:=sk st) x3.hh
   rw[v1] at this
   exact this
  ·rw[kq v7,take_snoc hz,aaB]
   by_cases hm:z∈D.held st
   ·rw[WM hm]
    refine i_ ⟨_,_,rfl,rfl,rfl,by omega,?_⟩
    rw[e4,aad (by simpa using hm),aaP,aaK]
   ·rw[Z6 hm]
    refine kD ⟨_,rfl,_,_,rfl,rfl,jv _ _,NM,?_⟩
    rw[e4,aaa (by simpa using hm),aaP]
 ·rintro ys σ H4 ⟨YK,zs,rfl,rfl,rfl,e3,e4⟩ cm Nj
  have e0:(gp (D.n5 y++[y])).length=(D.n5 y++[y]).length:=by rw[TU]
  rw[e0,aaq] at e4
  have e4:zs=D.n6 st y:=e4
  subst e4
  obtain⟨nc1,nc2⟩:=Gh (s:=st) I hyn
  have IT:=sV nc1 fun t ht=>(nc2 t ht).1
  have s4:=s3.new (o:=.lst (gp (D.n6 st y))) Nj
  have x4:=x.same s4
  have Ll:(upd H4 cm (.lst (gp (D.n6 st y)))) cm=some (.lst (gp (D.n6 st y))):=b_
  have UC:¬W cm:=fun z=>by obtain⟨kv,e⟩:=x4.dk cm z;rw[Ll] at e;cases e
  have UD:=fun H' a b c=>q4 hs hc hy cm H4 H' s3 Nj a b c
  generalize upd H4 cm (.lst (gp (D.n6 st y)))=H5 at s4 x4 Ll UD
  dsimp only [mB];refine JM ?_;intro _
  let Jv:=fun(i:Nat) (σ:St) (H6:Hp)=>∃(v6:Option V)(π':Dp),σ=[rr d,rs st,rs c,rs y,rr wt,rr cm,v6]∧NQ A H6 d (xa D st (D.held st++(D.n6 st y).take i)) W π'∧o7 W H5 H6
  refine⟨_,rfl,cm,rfl,⟨_,gH.of Ll⟩,iM (K:=K) (a:=cm) (xs:=gp (D.n6 st y)) Jv
   ⟨none,π,rfl,by rw[abE,aaK,Ii];exact x4,fun b o e _=>e⟩ (by rintro _ _ _ _ ⟨_,_,_,_,e⟩;exact gH.of (e _ _ Ll UC)) ?_ ?_⟩
  ·rintro i v σ H6 hx ⟨YK,π',rfl,x6,e6⟩
   obtain⟨z,hz,rfl⟩:=mv hx
   have hi:i<(D.n6 st y).length:=(List.getElem?_eq_some_iff.mp hz).1
   obtain⟨w1,w2,w3,w4,w5,kv6,w6,w7⟩:=x6.vh st hs
   have w7:kv6.map (·.1)=(D.held st++(D.n6 st y).take i).map sk:=by
    rw[w7]
    show(if st=st then _ else _:List Str).map sk=_
    rw[aar rfl]
   have IU:=ko w7
   have hhl:=sV (I.u_ st hs) fun t ht=>(I.l7 st hs t ht).1
   rw[W4,aay] at IU
   refine⟨_,rfl,d,A.gm,π'.dx,_,_,rfl,x6.hd,O.gF,O.iy,k_ _ _ _,_,rfl,π'.h,.ref (π'.ha st),rfl,?_,_,rfl,π'.ha st,_,rfl,mK.k (k:=sk z) w6 (by omega),?_⟩
   ·have:=iZ.k (k:=sk st) x6.hh
    rw[w1] at this
    exact this
   ·have UE:z∉D.held st++(D.n6 st y).take i:=fun hm=>by
     rcases Z3.mp hm with hm|hm
     ·exact(nc2 z (WI hz)).2 hm
     ·obtain⟨j,hj⟩:=aaC.mp hm
      have IJ:j<i:=by have:=(List.getElem?_eq_some_iff.mp hj).1;rw[aay] at this;omega
      rw[aa7,aar IJ] at hj
      have:=(abQ (List.getElem?_eq_some_iff.mp hj).1 nc1).mp (hj.trans hz.symm)
      omega
    have x7:=x6.xa (l:=D.held st++(D.n6 st y).take (i+1)) (kv:=putK kv6 (sk z) (V.bl true)) hs (by rw[take_snoc hz,←aaQ];exact qd w7 UE _)
    rw[Ih] at x7
    exact⟨_,π',rfl,x7,fun b o e n=>by rw[e_ (fun(z:b=π'.ha st)=>n (by rw[z];exact w2))];exact e6 b o e n⟩
  ·rintro σ H6 ⟨YK,π',rfl,x6,e6⟩
   rw[TU,aaq,←Ie] at x6
   exact⟨_,rfl,UD H6 (e6 _ _ Ll UC) ⟨π',x6⟩ e6⟩
def P7(A:Ad):Sp:=fun vs H Q E=>∃(d:Addr)(D:Dk)(W:Addr→Prop)(s x:Str),vs=[.ref d,.str s,.str x]∧iq A H d D W∧Inv D∧uN D.made.length∧kT s∧kT x∧(∀z∈D.names,kT z)∧
 (s∉D.stores→E (.ref A.iL) none H)∧(s∈D.stores→x∉D.held s→E (.ref A.jZ) none H)∧(s∈D.stores→x∈D.held s→¬(∀z∈D.held s,x∉D.iT z)→E (.ref A.tq) none H)∧(s∈D.stores→x∈D.held s→(∀z∈D.held s,x∉D.iT z)→∀H',iq A H' d (D.drop s x) W→o7 W H H'→Q .jm H')
theorem MS(T:Txt mg)(O:Ok K mg A):ij P w K mg base (tK P w) 2 A.xT A.xU ["self","store","patch"] (P7 A):=by
 have ig:=@j0 P w K mg base A T O
 have jN:=@pw P w K mg base A T O
 refine O.BQ.f.qt vq fun jl A0 outer s H vs Q E hr h=>?_
 obtain⟨d,D,W,st,y,rfl,X,I,jA,hf,Gy,hfz,q1,q2,q3,q5⟩:=h
 obtain⟨π,x⟩:=id X
 have v_:D.made.length≤4000:=jA
 have sz:sizeLine=16777216:=aaw
 refine⟨_,(de (hX (AW bx (pv 0) O.gF O.iU ig hr (a_ (pv 1) d_)))
   (de (hX (AW bx (pv 0) O.gF O.lj jN hr (a_ (pv 1) (a_ (pv 2) d_))))
   (de (yN (il JH rfl (Ct (zz hr (gC (pv 0) rfl) (pv 1))) (qY 3 vq) (fR (ik (i9 (nR (by exact iG hr) (pv 2) (zz hr (gC (pv 0) rfl) (pv 3)))) (fR (J3 (ki bx O.MA (by rfl) (lF (iu (mO (pv 3)) (iu i8 (iu (mO (pv 2)) nY))))))) g_))))
   (fR (hX (Jy (zz hr (gC (pv 0) rfl) (pv 1)) (pv 2) ⟨rfl,rfl,rfl,rfl⟩)))))),?_⟩
 refine NJ ?_;intro _ _ _
 refine⟨_,rfl,d,π.dx,_,rfl,x.hd,jz,_,rfl,d,D,W,st,rfl,X,hf,fun hs=>?_,fun hs=>q1 hs⟩
 refine⟨_,rfl,d,π.dx,_,rfl,x.hd,pq,_,rfl,_,rfl,d,D,W,st,y,rfl,X,hf,Gy,hs,fun hy=>?_,fun hy=>q2 hs hy⟩
 obtain⟨v1,v2,v3,v4,v5,kv,v6,v7⟩:=x.vh st hs
 have hdg:iZ H π.h (.str st) (some (.ref (π.ha st))):=by
  have:=iZ.k (k:=sk st) x.hh
  rw[v1] at this
  exact this
 refine⟨_,rfl,d,A.gm,π.dx,_,_,rfl,x.hd,O.gF,O.iy,k_ _ _ _,_,rfl,π.h,.ref (π.ha st),rfl,hdg,π.ha st,kv,rfl,v6,fun o uz=>?_⟩
 have f:∀{b u},H b=some u→b≠π.ha st→upd H (π.ha st) (.nq o (.dK kv)) b=some u:=fun{b u} e n=>by rw[e_ n];exact e
 have Ro:d≠π.ha st:=i7 x.hd v6 (fun z=>by cases z)
 let Jv:=fun(i:Nat) (σ:St) (H3:Hp)=>∃(v:Option V),σ=[rr d,rs st,rs y,v]∧H3=upd H (π.ha st) (.nq o (.dK kv))∧∀z∈(D.held st).take i,y∉D.iT z
 refine JL (d:=π.ha st) (o:=o) (kvs:=kv) Jv ⟨none,rfl,rfl,fun z hz=>by rw[abE] at hz;cases hz⟩ (by rintro _ _ _ ⟨_,_,e,_⟩;rw[e];exact b_) ?_ ?_
 ·rintro i k v σ H3 hi ⟨v0,rfl,rfl,IF⟩
  obtain⟨z,hz,rfl⟩:=w_ v7 hi
  have hzh:z∈D.held st:=WI hz
  have UB:=(I.l7 st hs z hzh).1
  obtain⟨a,ka,la,w1,w2,w3,w4,_,w6⟩:=x.vn z UB
  refine⟨_,rfl,_,rfl,d,A.gm,π.dx,_,_,rfl,f x.hd Ro,O.gF,O.jd,tF _ _ _,_,rfl,π.n,.ref a,rfl,?_,a,_,rfl,iZ.k (k:=sk y) (f w3 (fun z=>w2 (by rw[z];exact v2))),_,rfl,?_⟩
  ·have:=iZ.k (k:=sk z) (f x.hn v4.symm)
   rw[w1] at this
   exact this
  ·rw[kq w4]
   by_cases VP:y∈D.iT z
   ·rw[WM ((w6 y).mpr VP)]
    refine kD ⟨π.ha st,o,_,b_,uz,?_⟩
    rw[wC v6]
    have Lc:=(hfz z UB).1
    exact⟨_,rfl,_,rfl,Lc,_,rfl,Lc,⟨_,rfl,by decide+kernel,⟨_,rfl,_,rfl,Gy.1,_,rfl,Gy.1,fun _=>q3 hs hy fun h=>h z hzh VP⟩⟩⟩
   ·rw[Z6 (fun h=>VP ((w6 y).mp h))]
    refine i_ ⟨_,rfl,rfl,fun t ht=>?_⟩
    rw[take_snoc hz] at ht
    rcases Z3.mp ht with ht|ht
    ·exact IF t ht
    ·rw[WG.mp ht];exact VP
 ·rintro σ H3 ⟨v0,rfl,rfl,yG⟩
  have IU:=ko v7
  rw[IU,aaq] at yG
  have q4:=q5 hs hy yG
  refine⟨π.ha st,o,_,b_,uz,?_⟩
  rw[wC v6]
  have vZ:∃v,iI kv (sk y)=some v:=by
   have:=kq v7 y
   rw[WM hy] at this
   exact Option.isSome_iff_exists.mp this
  obtain⟨vv,hvv⟩:=vZ
  refine⟨_,rfl,d,A.gm,π.dx,_,_,rfl,x.hd,O.gF,O.iy,k_ _ _ _,_,rfl,π.h,.ref (π.ha st),rfl,hdg,π.ha st,rfl,.inl ⟨_,.inl v6⟩,_,rfl,kv,sk y,vv,v6,rfl,hvv,?_⟩
  refine q4 _ ⟨π,?_⟩ fun b u e n=>by rw[e_ (fun(z:b=π.ha st)=>n (by rw[z];exact v2))];exact e
  rw[Ig]
  exact x.xa hs (Gg v7)
theorem An(l:List Str):Paired (fun(x:Str) (v:V)=>v=.str x) l (gp l):=by
 induction l with
 | nil=>exact .nil
 | cons x r ih=>exact .cons rfl ih
theorem MT{n:Nat}{K:Qqy}{H:Hp}{a c:Addr}{x y:List Str}(h1:gH K H a (gp x))(h2:gH K H c (gp y)):pC K H (n+1) (.ref a) (.ref c) (decide (x=y)):=
 pC.Md (F:=fun(x:Str) (v:V)=>v=.str x) (fun p q u v hu hv=>by subst hu hv;exact pC.JE p q) h1 h2 (An x) (An y)
def LF(n:Int):Int→List Int→Prop
 | _,[]=>True
 | l,p::r=>(l≤p∧p<n)∧LF n (p+1) r
def KG(A:Ad):Sp:=fun vs H Q E=>∃(a:Addr)(ps:List Int)(n:Int),vs=[.ref a,.int n]∧H a=some (.lst (ps.map V.int))∧(∀p∈ps,p.natAbs.log2<1920)∧(LF n 0 ps→Q .jm H)∧(¬LF n 0 ps→E (.ref A.ow) none H)
theorem yF(T:Txt mg)(O:Ok K mg A):ij P w K mg base (tK P w) 1 A.sv A.sx ["places","size"] (KG A):=by
 refine O.vL.f.qt lh fun jl A0 outer s H vs Q E hr h=>?_
 obtain⟨a,ps,n,rfl,ha,QQ,q,qe⟩:=h
 refine⟨_,(de (kW 2 lh gc)
   (fR (il JH rfl (ir (pv 0)) (qY 3 lh) (de (ik (jT (y_ D_ D9 (pv 2) (pv 3) (pv 1))) (fR (ki bx O.Kh (by rfl) (lF (iu i8 (iu (JO (pv 3)) (iu i8 nY)))))) g_)
   (fR (kW 2 lh (gr iC (pv 3) gc))))))),?_⟩
 refine LD ?_;intro _
 let Jv:=fun(i:Nat) (σ:St) (H2:Hp)=>∃(l:Int)(v:Option V),σ=[rr a,ri n,ri l,v]∧H2=H∧(LF n 0 ps↔LF n l (ps.drop i))
 refine⟨_,rfl,a,rfl,⟨_,gH.of ha⟩,iM (K:=K) (a:=a) (xs:=ps.map V.int) Jv ⟨0,none,rfl,rfl,Iff.rfl⟩ (by rintro _ _ _ _ ⟨_,_,_,e,_⟩;rw[e];exact gH.of ha) ?_ ?_⟩
 ·rintro i v σ H2 hx ⟨l,v0,rfl,rfl,e⟩
  rw[Z4] at hx
  obtain⟨p,hp,rfl⟩:=Option.map_eq_some_iff.mp hx
  have hi:i<ps.length:=(List.getElem?_eq_some_iff.mp hp).1
  have hd:ps.drop i=p::ps.drop (i+1):=by rw[aaT hi];congr 1;exact(List.getElem?_eq_some_iff.mp hp).2
  rw[hd] at e
  have hl:=QQ p (WI hp)
  refine⟨_,rfl,_,rfl,_,_,rfl,rfl,_,rfl,?_⟩
  refine kF (fun h1=>?_) (fun h1=>?_)
  ·have h1:l≤p:=by simpa using h1
   refine⟨_,rfl,_,_,rfl,rfl,_,rfl,?_⟩
   refine kF (fun h2=>?_) (fun h2=>?_)
   ·have h2:¬p<n:=by simpa using h2
    refine⟨_,rfl,by decide+kernel,⟨_,rfl,_,rfl,hl,_,rfl,?_⟩⟩
    exact⟨XI (PyProof.Rows.int_text_len_1921 hl) (by decide),⟨_,rfl,by decide+kernel,fun _=>qe fun z=>h2 (e.mp z).1.2⟩⟩
   ·have h2:p<n:=by simpa using h2
    refine⟨_,rfl,_,_,rfl,rfl,_,_,rfl,rfl,e.trans ⟨fun z=>z.2,fun z=>⟨⟨h1,h2⟩,z⟩⟩⟩
  ·have h1:¬l≤p:=by simpa using h1
   refine⟨_,rfl,?_⟩
   refine⟨_,rfl,by decide+kernel,⟨_,rfl,_,rfl,hl,_,rfl,?_⟩⟩
   exact⟨XI (PyProof.Rows.int_text_len_1921 hl) (by decide),⟨_,rfl,by decide+kernel,fun _=>qe fun z=>h1 (e.mp z).1.1⟩⟩
 ·rintro σ H2 ⟨l,v0,rfl,rfl,e⟩
  rw[TU,acj] at e
  exact q (e.mpr trivial)
def S5(A:Ad):Sp:=fun vs H Q E=>∃(d t:Addr)(D:Dk)(W:Addr→Prop)(s x f:Str)(texts:List Str),vs=[.ref d,.str s,.str x,.str f,.ref t]∧iq A H d D W∧Inv D∧Small D.made∧(D.made.flatMap (·.iB)).length≤1000∧kT s∧kT x∧kT f∧H t=some (.lst (gp texts))∧texts.length≤1000∧
 (s∉D.stores→E (.ref A.iL) none H)∧
 (s∈D.stores→¬(Good x∧Good f)→∀H',gj H H'→E (.ref A.jD) none H')∧
 (s∈D.stores→Good x→Good f→x∈D.names→∀H',gj H H'→E (.ref A.ju) none H')∧
 (s∈D.stores→Good x→Good f→x∉D.names→D.pO s f≠[]→∀H',gj H H'→E (.ref A.lx) none H')∧
 (s∈D.stores→Good x→Good f→x∉D.names→D.pO s f=[]→(D.row s f).map (·.tx)=texts→∀H',gj H H'→E (.ref A.ux) none H')∧
 (s∈D.stores→Good x→Good f→x∉D.names→D.pO s f=[]→(D.row s f).map (·.tx)≠texts→∀H',iq A H' d (D.keep s (mE x f (D.row s f) texts)) W→o7 W H H'→Q .jm H')
theorem ly{x f:Str}:(∀y∈[x,f],Good y)↔Good x∧Good f:=by
 constructor
 ·exact fun h=>⟨h x (by simp),h f (by simp)⟩
 ·rintro⟨h1,h2⟩ y hy
  rcases Z8.mp hy with z|z
  ·rw[z];exact h1
  ·rw[WG.mp z];exact h2
theorem vT{D:Dk}(I:Inv D){s f x:Str}(hs:s∈D.stores)(texts:List Str):∀y∈iJ (mE x f (D.row s f) texts),y∈D.names:=by
 intro y hy
 unfold iJ at hy
 rcases Z3.mp hy with hy|hy
 ·obtain⟨m,hm,rfl⟩:=List.mem_map.mp hy
  obtain⟨hm,hn⟩:=aao.mp hm
  have hn:m.1≠x:=aak hn
  have fin:m∈(D.row s f).map (·.nm)→m.1∈D.names:=fun h=>by
   obtain⟨l,hl,rfl⟩:=List.mem_map.mp h
   obtain⟨p,h1,_,h3⟩:=I.vc hl
   have hp:=(Inv.mx.mp h1).1
   rw[rR (I.HR p hp) (XE h3)]
   exact XE hp
  rcases Z3.mp hm with hm|hm
  ·obtain⟨l,hl,rfl⟩:=List.mem_map.mp hm
   exact fin (XE (aao.mp hl).1)
  ·obtain⟨l,hl,hm⟩:=aa_.mp hm
   have Qy:l.up=some m∨l.lo=some m:=by
    rcases Z3.mp hm with hm|hm
    ·exact .inl (by simpa using hm)
    ·exact .inr (by simpa using hm)
   rcases yP texts 0 0 none l hl m Qy with(z|⟨t,z⟩)|z
   ·cases z
   ·obtain⟨q,_,_,l',IK,rfl⟩:=Cz z
    exact fin (XE (WI IK))
   ·rw[u5] at z
    obtain⟨j,_,rfl⟩:=List.mem_map.mp z
    exact absurd rfl hn
 ·cases hy
theorem vU{x f:Str}{row:List Ln}{texts:List Str}:(mE x f row texts).iB.length≤texts.length∧(mE x f row texts).j9.length≤row.length:=by
 have rise:=tj (row.map (·.tx)) texts
 rw[TU] at rise
 have h:=GU rise x
 refine⟨by show(kI x texts _).length≤_;omega,?_⟩
 show((row.filter _).map _).length≤_
 rw[TU]
 exact aaE _ _
theorem Ij(T:Txt mg)(O:Ok K mg A):ij P w K mg base (tK P w) 6 A.tZ A.t_ ["self","store","patch","file","texts"] (S5 A):=by
 have ig:=@j0 P w K mg base A T O
 have j3:=@qO P w K mg base A T O
 have iR:=@mH P w K mg base A T O
 have k8:=@sQ P w K mg base A T O
 have xl:=@vS P w K mg base A T O
 have mI:=@Dc P w K mg base A T O
 refine O.yk.f.qt oh fun jl A0 outer s H vs Q E hr h=>?_
 obtain⟨d,t,D,W,st,y,f,texts,rfl,X,I,sm,YL,Aw,Gy,QR,ht,Qz,q1,q2,q3,q4,q5,q6⟩:=h
 obtain⟨π,x⟩:=id X
 have sz:sizeLine=16777216:=aaw
 have DQ:(D.row st f).length≤1000:=XI (I.oH st f) YL
 refine⟨_,(de (hX (AW bx (pv 0) O.gF O.iU ig hr (a_ (pv 1) d_)))
   (de (hX (AW bx (pv 0) O.gF O.lV j3 hr (a_ (pv 2) (a_ (iO (a_ (pv 3) d_)) d_))))
   (de (kW 5 oh (AW bx (pv 0) O.gF O.kj iR hr (a_ (pv 1) (a_ (pv 3) d_))))
   (de (ik (rL (uV (pv 5) O.i3 O.jL.t k8 (hr.mono (by decide)) O.jL.b .nil nU) (fun _=>rfl)) (fR (ki bx O.EO (by rfl) (lF (iu i8 (iu (mO (pv 3)) (iu i8 nY)))))) g_)
   (de (ik (ib (zu 3 (by exact Q_ hr)) (xx tV (f_ my).names [6] rfl (ir (gC (pv 5) rfl)) rfl (by decide+kernel) (fun _ _ _ _=>(iw (i:=6) oh.nd rfl (Or.inl rfl))) (fun _ _ _ _=>nV) (fun _ _ _ _=>AX (gC (pv 6) rfl))) (pv 4) (ip _)) (fR (ki bx O.Ki (by rfl) (lF (iu i8 (iu (mO (pv 3)) (iu i8 nY)))))) g_)
   (fR (hX (uZ (pv 0) O.gF O.tw mI hr (a_ (pv 1) (a_ (o_ O.sH xl hr (a_ (pv 2) (a_ (pv 3) (a_ (gC (pv 5) rfl) (a_ (pv 4) d_))))) d_)))))))))),?_⟩
 refine So ?_;intro _ _ _ _ _
 refine⟨_,rfl,d,π.dx,_,rfl,x.hd,jz,_,rfl,d,D,W,st,rfl,X,Aw,fun hs=>?_,fun hs=>q1 hs⟩
 refine⟨_,rfl,d,π.dx,_,rfl,x.hd,qN,_,rfl,_,rfl,L2.jA,fun l hl=>?_⟩
 have s1:gj H (upd H l (.lst [V.str f])):=(gj.refl H).new hl
 refine⟨d,l,D,W,y,[f],rfl,X.same s1,b_,by show 1≤1000;decide,fun z hz=>?_,fun h H' s'=>q2 hs (fun g=>h (ly.mpr g)) H' (s1.trans s'),fun h hn H' s'=>q3 hs (ly.mp h).1 (ly.mp h).2 hn H' (s1.trans s'),fun h hn H2 s2=>?_⟩
 ·rcases Z8.mp hz with z|z
  ·rw[z];exact Gy
  ·rw[WG.mp z];exact QR
 obtain⟨gy,gf⟩:=ly.mp h
 have Dq:=s1.trans s2
 have X2:=X.same Dq
 refine⟨_,rfl,d,π.dx,_,rfl,Dq _ _ x.hd,mG,_,rfl,_,rfl,d,D,W,st,f,rfl,X2,Aw,sm,I,fun h=>absurd hs h,fun _ p H3 s3 qj sg=>?_⟩
 obtain⟨px,ah,ln,g1,g2,⟨as,g3,g4⟩⟩:=id sg
 have IP:=Dq.trans s3
 have hlen:=aaj g4
 refine⟨_,rfl,p,px,_,rfl,g1,Ku ah ln,p,_,_,rfl,sg,Kz I st f,XI DQ (by decide),fun r H4 vs s4 pF xj B8=>?_⟩
 have Oi:=IP.trans s4
 have Lh:=aaj B8
 by_cases hq:D.pO st f=[]
 case neg=>
  have YM:vs≠[]:=fun z=>hq (by
   have e:(jH (Ah (gE (D.l6 st) f)) (D.row st f)).length=0:=by rw[Lh,z];rfl
   exact aaG.mp e)
  refine⟨true,.inl ⟨_,gH.of xj,by simpa using YM⟩,kD ?_⟩
  exact⟨_,rfl,by decide+kernel,⟨_,rfl,_,rfl,QR.1,_,rfl,QR.1,⟨_,rfl,by decide+kernel,fun _=>q4 hs gy gf hn hq _ Oi⟩⟩⟩
 have YM:vs=[]:=by
  have e:(jH (Ah (gE (D.l6 st) f)) (D.row st f)).length=0:=by rw[show jH (Ah (gE (D.l6 st) f)) (D.row st f)=[] from hq];rfl
  rw[Lh] at e
  exact aaG.mp e
 refine⟨false,.inl ⟨_,gH.of xj,by rw[YM];rfl⟩,i_ ?_⟩
 have g14:=s4 _ _ g1
 have YN:=s4 _ _ g3
 let Jv:=fun(i:Nat) (ys:List V) (σ:St) (H5:Hp)=>∃(v6:Option V),σ=[rr d,rs st,rs y,rs f,rr t,rr p,v6]∧H5=H4∧ys=gp (((D.row st f).take i).map (·.tx))
 refine⟨_,rfl,p,A.hG,px,_,_,rfl,g14,O.i3,O.ia,jE ah ln,ln,rfl,⟨_,gH.of YN⟩,kO (K:=K) (a:=ln) (xs:=as.map V.ref) (by rw[TU];omega) Jv
  ⟨none,rfl,rfl,rfl⟩ (by rintro _ _ _ _ _ ⟨_,_,e,e2⟩;rw[e,e2];exact⟨gH.of YN,by rw[TU,TU,aay];omega⟩) ?_ ?_⟩
 ·rintro i v ys σ H5 hx ⟨v6,rfl,rfl,rfl⟩
  obtain⟨b,hb,rfl⟩:=ke hx
  obtain⟨l2,K5,dx,vn,vu,vl,k1,k2,k3,k4⟩:=iz g4 hb
  refine⟨_,rfl,b,A.hV,dx,_,_,rfl,s4 _ _ k1,O.iP,O.jM,Aa,_,rfl,rfl,?_⟩
  rw[take_snoc K5,aat,jv]
  rfl
 ·rintro ys σ H5 ⟨v6,rfl,rfl,rfl⟩ o VJ
  rw[TU,hlen,aaq]
  have s5:=Oi.new (o:=.lst (gp ((D.row st f).map (·.tx)))) VJ
  have IX:gj H5 (upd H5 o (.lst (gp ((D.row st f).map (·.tx))))):=(gj.refl H5).new VJ
  refine⟨_,rfl,_,⟨o,t,rfl,rfl⟩,MT (gH.of b_) (gH.of (s5 _ _ ht)),_,rfl,?_⟩
  by_cases he:(D.row st f).map (·.tx)=texts
  ·rw[WM he]
   refine kD ?_
   exact⟨_,rfl,by decide+kernel,⟨_,rfl,_,rfl,QR.1,_,rfl,QR.1,⟨_,rfl,by decide+kernel,fun _=>q5 hs gy gf hn hq he _ s5⟩⟩⟩
  ·rw[Z6 he]
   refine i_ ?_
   have X5:=X.same s5
   refine⟨_,rfl,d,π.dx,_,rfl,s5 _ _ x.hd,C8,_,rfl,_,rfl,_,rfl,_,rfl,p,A.hG,px,_,_,rfl,IX _ _ g14,O.i3,O.ia,jE ah ln,_,rfl,y,f,ln,t,D.row st f,texts,rfl,⟨as,IX _ _ YN,Paired.kC g4 fun _ _ z=>(z.same s4).same IX⟩,s5 _ _ ht,DQ,Qz,fun pa H6 s6 hpa0 YO=>?_⟩
   have UG:=s5.trans s6
   obtain⟨cl1,cl2⟩:=vU (x:=y) (f:=f) (row:=D.row st f) (texts:=texts)
   refine⟨d,pa,D,W,st,_,rfl,X.same UG,I,sm.many,hs,YO,hn,XI cl1 (XI Qz (by decide)),XI cl2 (XI DQ (by decide)),vT I hs texts,fun H7 X7 s7=>?_⟩
   exact q6 hs gy gf hn hq he H7 X7 fun b o e n=>s7 b o (UG _ _ e) n
def P8(A:Ad):Sp:=fun vs H Q E=>∃(d:Addr)(D:Dk)(W:Addr→Prop)(s x o:Str),vs=[.ref d,.str s,.str x,.str o]∧iq A H d D W∧Inv D∧uN D.made.length∧kT s∧kT x∧kT o∧
 (s∉D.stores→E (.ref A.iL) none H)∧(s∈D.stores→¬Good x→∀H',gj H H'→E (.ref A.jD) none H')∧(s∈D.stores→Good x→x∈D.names→∀H',gj H H'→E (.ref A.ju) none H')∧
 (s∈D.stores→Good x→x∉D.names→o∉D.held s→∀H',gj H H'→E (.ref A.jZ) none H')∧
 (s∈D.stores→Good x→x∉D.names→o∈D.held s→∀H',iq A H' d (D.keep s ⟨x,none,[],[],some o⟩) W→o7 W H H'→Q .jm H')
theorem Ao{x:Str}:(∀y∈[x],Good y)↔Good x:=⟨fun h=>h x (by simp),fun h y hy=>by rw[WG.mp hy];exact h⟩
theorem MU(T:Txt mg)(O:Ok K mg A):ij P w K mg base (tK P w) 4 A.xP A.xQ ["self","store","patch","other"] (P8 A):=by
 have ig:=@j0 P w K mg base A T O
 have j3:=@qO P w K mg base A T O
 have jN:=@pw P w K mg base A T O
 have j2:=@pj P w K mg base A T O
 have mI:=@Dc P w K mg base A T O
 refine O.BP.f.qt CJ fun jl A0 outer s H vs Q E hr h=>?_
 obtain⟨d,D,W,st,y,ot,rfl,X,I,jA,Aw,Gy,hfo,q1,q2,q3,q4,q5⟩:=h
 obtain⟨π,x⟩:=id X
 refine⟨_,(de (hX (AW bx (pv 0) O.gF O.iU ig hr (a_ (pv 1) d_)))
   (de (hX (AW bx (pv 0) O.gF O.lV j3 hr (a_ (pv 2) (a_ (iO d_) d_))))
   (de (hX (AW bx (pv 0) O.gF O.lj jN hr (a_ (pv 1) (a_ (pv 3) d_))))
   (fR (hX (uZ (pv 0) O.gF O.tw mI hr (a_ (pv 1) (a_ (uW O.CT j2 (hr.mono (by decide)) (by rfl) O.CU O.lS.b .nil nU (a_ (pv 2) (a_ uf (a_ (iO d_) (a_ (iO d_) (a_ (pv 3) d_)))))) d_)))))))),?_⟩
 refine NJ ?_;intro _ _ _
 refine⟨_,rfl,d,π.dx,_,rfl,x.hd,jz,_,rfl,d,D,W,st,rfl,X,Aw,fun hs=>?_,fun hs=>q1 hs⟩
 refine⟨_,rfl,d,π.dx,_,rfl,x.hd,qN,_,rfl,L2.jA,fun l hl=>?_⟩
 have s1:gj H (upd H l (.lst [])):=(gj.refl H).new hl
 refine⟨d,l,D,W,y,[],rfl,X.same s1,b_,by show 0≤1000;decide,fun z hz=>by rw[WG.mp hz];exact Gy,fun h H' s'=>q2 hs (fun g=>h (Ao.mpr g)) H' (s1.trans s'),fun h hn H' s'=>q3 hs (Ao.mp h) hn H' (s1.trans s'),fun h hn H2 s2=>?_⟩
 have gy:=Ao.mp h
 have Dq:=s1.trans s2
 refine⟨_,rfl,d,π.dx,_,rfl,Dq _ _ x.hd,pq,_,rfl,_,rfl,d,D,W,st,ot,rfl,X.same Dq,Aw,hfo,hs,fun ho=>?_,fun ho=>q4 hs gy hn ho _ Dq⟩
 refine⟨_,rfl,d,π.dx,_,rfl,Dq _ _ x.hd,C8,_,rfl,_,rfl,L2.jA,fun a ha=>⟨L2.jA,fun b hb=>⟨_,rfl,?_⟩⟩⟩
 have s3:=Dq.new (o:=.lst []) ha
 have s4:=s3.new (o:=.lst []) hb
 intro o dx no QL Ys
 refine⟨o,dx,_,_,_,_,_,rfl,b_,fun H5 r6 r7=>⟨rfl,?_⟩⟩
 have s5:gj (upd (upd H2 a (.lst [])) b (.lst [])) H5:=fun c u ec=>by
  rw[r6 c (gh ec no),e_ (gh ec no),e_ (gh ec QL)]
  exact ec
 have s15:=s4.trans s5
 have pt:oz A H5 o ⟨y,none,[],[],some ot⟩:=⟨dx,_,a,b,.str ot,r7,rfl,⟨[],s5 _ _ (ie hb b_),.nil⟩,⟨[],s5 _ _ b_,.nil⟩,rfl⟩
 refine⟨d,o,D,W,st,_,rfl,X.same s15,I,jA,hs,pt,hn,aaz _,aaz _,fun z hz=>?_,fun H7 X7 s7=>?_⟩
 ·have:z=ot:=by simpa[iJ,named] using hz
  rw[this];exact(I.l7 st hs ot ho).1
 ·exact q5 hs gy hn ho H7 X7 fun b o e n=>s7 b o (s15 _ _ e) n
def S6(A:Ad):Sp:=fun vs H Q E=>∃(d t:Addr)(D:Dk)(W:Addr→Prop)(s x f:Str)(ps:List Int),vs=[.ref d,.str s,.str x,.str f,.ref t]∧iq A H d D W∧Inv D∧Small D.made∧kT s∧kT x∧kT f∧H t=some (.lst (ps.map V.int))∧ps.length≤1000∧(∀p∈ps,p.natAbs.log2<1920)∧
 (s∉D.stores→E (.ref A.iL) none H)∧
 (s∈D.stores→¬(Good x∧Good f)→∀H',gj H H'→E (.ref A.jD) none H')∧
 (s∈D.stores→Good x→Good f→x∈D.names→∀H',gj H H'→E (.ref A.ju) none H')∧
 (s∈D.stores→Good x→Good f→x∉D.names→¬LF (D.row s f).length 0 ps→∀H',gj H H'→E (.ref A.ow) none H')∧
 (s∈D.stores→Good x→Good f→x∉D.names→ps=[]→∀H',gj H H'→E (.ref A.ux) none H')∧
 (s∈D.stores→Good x→Good f→x∉D.names→LF (D.row s f).length 0 ps→ps≠[]→∀H',iq A H' d (D.keep s ⟨x,some f,[],ps.filterMap fun p=>((D.row s f)[p.toNat]?).map (·.nm),none⟩) W→o7 W H H'→Q .jm H')
theorem G6{n:Int}:∀{l:Int} {ps:List Int},0≤l→LF n l ps→∀p∈ps,0≤p∧p<n
 | _,[],_,_,p,hp=>by cases hp
 | l,q::r,h0,h,p,hp=>by
  obtain⟨⟨h1,h2⟩,h3⟩:=h
  rcases Z8.mp hp with rfl|hp
  ·exact⟨by omega,h2⟩
  ·exact G6 (by omega) h3 p hp
theorem KH(T:Txt mg)(O:Ok K mg A):ij P w K mg base (tK P w) 6 A.zU A.zV ["self","store","patch","file","places"] (S6 A):=by
 have ig:=@j0 P w K mg base A T O
 have j3:=@qO P w K mg base A T O
 have iR:=@mH P w K mg base A T O
 have AA:=@yF P w K mg base A T O
 have j2:=@pj P w K mg base A T O
 have mI:=@Dc P w K mg base A T O
 refine O.z8.f.qt sh fun jl A0 outer s H vs Q E hr h=>?_
 obtain⟨d,t,D,W,st,y,f,ps,rfl,X,I,sm,Aw,Gy,QR,ht,Qz,QQ,q1,q2,q3,q4,q5,q6⟩:=h
 obtain⟨π,x⟩:=id X
 have sz:sizeLine=16777216:=aaw
 have DQ:(D.row st f).length≤4000:=XI (I.oH st f) sm.iB
 refine⟨_,(de (hX (AW bx (pv 0) O.gF O.iU ig hr (a_ (pv 1) d_)))
   (de (hX (AW bx (pv 0) O.gF O.lV j3 hr (a_ (pv 2) (a_ (iO (a_ (pv 3) d_)) d_))))
   (de (lq (i:=5) sh.nd rfl (Or.inr rfl) (gC (AW bx (pv 0) O.gF O.kj iR hr (a_ (pv 1) (a_ (pv 3) d_))) rfl))
   (de (hX (WK bx O.vL AA hr (a_ (pv 4) (a_ (gs gk (by rfl) T.iW aah (a_ (pv 5) d_)) d_))))
   (de (ik (jT (rL (pv 4) (fun _=>rfl))) (fR (ki bx O.Ki (by rfl) i8)) g_)
   (fR (hX (uZ (pv 0) O.gF O.tw mI hr (a_ (pv 1) (a_ (uW O.CT j2 (hr.mono (by decide)) (by rfl) O.CU O.lS.b .nil nU (a_ (pv 2) (a_ (pv 3) (a_ (iO d_) (a_ (xx zM (f_ qF).names [6] rfl (ir (pv 4)) rfl (by decide+kernel) (fun _ _ _ _=>(iw (i:=6) sh.nd rfl (Or.inl rfl))) (fun _ _ _ _=>nV) (fun _ _ _ _=>AX (gC (pE (pv 5) (pv 6)) rfl))) (a_ uf d_)))))) d_)))))))))),?_⟩
 refine So ?_;intro _ _ _ _ _
 refine⟨_,rfl,d,π.dx,_,rfl,x.hd,jz,_,rfl,d,D,W,st,rfl,X,Aw,fun hs=>?_,fun hs=>q1 hs⟩
 refine⟨_,rfl,d,π.dx,_,rfl,x.hd,qN,_,rfl,_,rfl,L2.jA,fun l hl=>?_⟩
 have s1:gj H (upd H l (.lst [V.str f])):=(gj.refl H).new hl
 refine⟨d,l,D,W,y,[f],rfl,X.same s1,b_,by show 1≤1000;decide,fun z hz=>?_,fun h H' s'=>q2 hs (fun g=>h (ly.mpr g)) H' (s1.trans s'),fun h hn H' s'=>q3 hs (ly.mp h).1 (ly.mp h).2 hn H' (s1.trans s'),fun h hn H2 s2=>?_⟩
 ·rcases Z8.mp hz with z|z
  ·rw[z];exact Gy
  ·rw[WG.mp z];exact QR
 obtain⟨gy,gf⟩:=ly.mp h
 have Dq:=s1.trans s2
 have X2:=X.same Dq
 refine⟨_,rfl,d,π.dx,_,rfl,Dq _ _ x.hd,mG,_,rfl,_,rfl,d,D,W,st,f,rfl,X2,Aw,sm,I,fun h=>absurd hs h,fun _ p H3 s3 qj ⟨px,ah,ln,g1,g2,⟨as,g3,g4⟩⟩=>?_⟩
 have IP:=Dq.trans s3
 have hlen:=aaj g4
 have el:((as.map V.ref).length:Int)=((D.row st f).length:Int):=by rw[TU,hlen]
 refine⟨p,A.hG,px,_,_,rfl,g1,O.i3,O.ia,jE ah ln,?_⟩
 refine⟨_,rfl,_,rfl,ln,_,rfl,.inl (gH.of g3),?_⟩
 rw[el]
 refine⟨t,ps,_,rfl,IP _ _ ht,QQ,fun ok=>?_,fun nok=>q4 hs gy gf hn nok _ IP⟩
 by_cases RE:ps=[]
 ·refine⟨_,rfl,false,.inl ⟨_,gH.of (IP _ _ ht),by rw[RE];rfl⟩,?_⟩
  exact q5 hs gy gf hn RE _ IP
 ·refine⟨_,rfl,true,.inl ⟨_,gH.of (IP _ _ ht),by simpa using RE⟩,?_⟩
  refine i_ ?_
  refine⟨_,rfl,d,π.dx,_,rfl,IP _ _ x.hd,C8,_,rfl,_,rfl,_,rfl,L2.jA,fun a ha=>?_⟩
  have s4:=IP.new (o:=.lst []) ha
  have Lm:gj H3 (upd H3 a (.lst [])):=(gj.refl H3).new ha
  have VN:(upd H3 a (.lst [])) a=some (.lst []):=b_
  generalize upd H3 a (.lst [])=H4 at s4 Lm VN
  let Jv:=fun(i:Nat) (ys:List V) (σ:St) (H5:Hp)=>∃(v6:Option V),σ=[rr d,rs st,rs y,rs f,rr t,rr ln,v6]∧H5=H4∧ys.length≤i∧Paired (lA H3) ys ((ps.take i).filterMap fun p=>((D.row st f)[p.toNat]?).map (·.nm))
  refine⟨_,rfl,t,rfl,⟨_,gH.of (s4 _ _ ht)⟩,kO (K:=K) (a:=t) (xs:=ps.map V.int) (by rw[TU];omega) Jv
   ⟨none,rfl,rfl,WL _,.nil⟩ (by rintro _ _ _ _ _ ⟨_,_,e,e2,_⟩;rw[e];exact⟨gH.of (s4 _ _ ht),e2⟩) ?_ ?_⟩
  ·rintro i v ys σ H5 hx ⟨v6,rfl,rfl,e2,e3⟩
   rw[Z4] at hx
   obtain⟨pl,qi,rfl⟩:=Option.map_eq_some_iff.mp hx
   obtain⟨b1,b2⟩:=G6 (by decide) ok pl (WI qi)
   have jQ:pl.toNat<(D.row st f).length:=by omega
   have Az:(D.row st f)[pl.toNat]?=some (D.row st f)[pl.toNat]:=TZ jQ
   obtain⟨b,hb,dx,vn,vu,vl,k1,⟨nt,rfl,k2⟩,k3,k4⟩:=Ai g4 Az
   refine⟨_,rfl,_,rfl,ln,_,_,_,rfl,rfl,gH.of (Lm _ _ g3),ic (j:=pl.toNat) (by omega) hb,b,A.hV,dx,_,_,rfl,Lm _ _ k1,O.iP,O.hU,i5,?_⟩
   refine⟨_,rfl,rfl,NM,?_⟩
   rw[take_snoc qi,abH,abq,Az]
   exact iA e3 ⟨nt,rfl,k2⟩
  ·rintro ys σ H5 ⟨v6,rfl,rfl,e2,e3⟩ c hc
   rw[TU,aaq] at e3
   have s5:=s4.new (o:=.lst ys) hc
   intro o dx no QL Ys
   refine⟨o,dx,_,_,_,_,_,rfl,b_,fun H6 r6 r7=>⟨rfl,?_⟩⟩
   have s6:gj (upd H5 c (.lst ys)) H6:=fun b u ec=>by
    rw[r6 b (gh ec no),e_ (gh ec no),e_ (gh ec QL)]
    exact ec
   have UG:=s5.trans s6
   have s36:gj H3 H6:=(Lm.new hc).trans s6
   have pt:oz A H6 o ⟨y,some f,[],ps.filterMap fun p=>((D.row st f)[p.toNat]?).map (·.nm),none⟩:=⟨dx,_,a,c,.jm,r7,rfl,⟨[],s6 _ _ (ie hc VN),.nil⟩,⟨ys,s6 _ _ b_,Paired.kC e3 fun _ _ z=>z.same s36⟩,rfl⟩
   have IT:(ps.filterMap fun p=>((D.row st f)[p.toNat]?).map (·.nm)).length≤4000:=XI (ab0 _ _) (by omega)
   refine⟨d,o,D,W,st,_,rfl,X.same UG,I,sm.many,hs,pt,hn,aaz _,IT,fun z hz=>?_,fun H7 X7 s7=>q6 hs gy gf hn ok RE H7 X7 fun b o e n=>s7 b o (UG _ _ e) n⟩
   unfold iJ at hz
   rcases Z3.mp hz with hz|hz
   ·obtain⟨m,hm,rfl⟩:=List.mem_map.mp hz
    have hm:=(aao.mp hm).1
    have hm:m∈(ps.filterMap fun p=>((D.row st f)[p.toNat]?).map (·.nm)):=by simpa[named] using hm
    obtain⟨pl,_,qi⟩:=abI.mp hm
    obtain⟨l',IK,rfl⟩:=Option.map_eq_some_iff.mp qi
    obtain⟨q,h1,_,h3⟩:=I.vc (WI IK)
    have hq:=(Inv.mx.mp h1).1
    rw[rR (I.HR q hq) (XE h3)]
    exact XE hq
   ·cases hz
noncomputable def cellAt(ns:List Int)(k:Int):Int:=(ns[k.toNat]?).getD 0
noncomputable def Dd(i:Int):Str:=⟨#[(l8.cps[(i%36).toNat]?).getD 0]⟩
noncomputable def kK(cell k:Int):Nat→Str
 | 0=>Str.ofString ""
 | j+1=>kK cell k j++(if(j:Int)=cell/12%(1+cell%12) then Dd (k+cell/144) else Dd (cell/144+5*(j:Int)+cell/5184%2*k*7))
noncomputable def nameOf(cell k:Int):Str:=kK cell k (1+cell%12).toNat
theorem De:l8.length=36:=by decide+kernel
theorem KI:l8.cps.size=36:=De
theorem Df(a b:Str):(a++b).cps.toList=a.cps.toList++b.cps.toList:=Array.toList_append
theorem G7(a b:Str):(a++b).length=a.length+b.length:=Array.size_append
theorem yT(i:Int):∃c,Fo l8.cps.toList (i%36)=some c∧Dd i=⟨#[c]⟩∧c∈l8.cps.toList:=by
 have b:=mod_lt i 36 (by decide)
 obtain⟨c,e,ev⟩:=rO (xs:=l8.cps.toList) b.1 (by rw[abc,KI];exact b.2)
 rw[aa8] at ev
 exact⟨c,e,by unfold Dd;rw[ev];rfl,WI (i:=(i%36).toNat) (by rw[aa8];exact ev)⟩
theorem yU(cell k:Int):∀j,(kK cell k j).length=j∧∀c∈(kK cell k j).cps.toList,c∈l8.cps.toList
 | 0=>⟨by unfold kK;decide+kernel,fun c hc=>by
   have:(kK cell k 0).cps.toList=[]:=by unfold kK;decide+kernel
   rw[this] at hc;cases hc⟩
 | j+1=>by
  have ⟨h1,h2⟩:=yU cell k j
  unfold kK
  obtain⟨c1,_,e1,m1⟩:=yT (k+cell/144)
  obtain⟨c2,_,e2,m2⟩:=yT (cell/144+5*(j:Int)+cell/5184%2*k*7)
  split
  ·rw[e1,G7,Df]
   refine⟨by rw[h1];rfl,fun c hc=>?_⟩
   rcases Z3.mp hc with hc|hc
   ·exact h2 c hc
   ·rw[WG.mp hc];exact m1
  ·rw[e2,G7,Df]
   refine⟨by rw[h1];rfl,fun c hc=>?_⟩
   rcases Z3.mp hc with hc|hc
   ·exact h2 c hc
   ·rw[WG.mp hc];exact m2
theorem nM(cell k:Int):Good (nameOf cell k):=by
 obtain⟨h1,h2⟩:=yU cell k (1+cell%12).toNat
 have b:=mod_lt cell 12 (by decide)
 exact⟨by unfold nameOf;rw[h1];omega,by unfold nameOf;rw[h1];omega,h2⟩
theorem MV{x:Str}(h:x.length≤1000)(hc:∀c∈x.cps.toList,c<1114112):kT x:=by
 refine⟨?_,h⟩
 have z:=PySem.StrLaws.reprText_len x fun c B4=>acp (hc c B4) (by decide)
 omega
theorem KJ:∀c∈l8.cps.toList,c<1114112:=by decide+kernel
theorem Good.xb{x:Str}(g:Good x):kT x:=MV (by have:=g.2.1;omega) fun c hc=>KJ c (g.2.2 c hc)
noncomputable def G8(i:Int):Nat:=(l8.cps[(i%36).toNat]?).getD 0
theorem Ik{i j:Int}(h:G8 i=G8 j):i%36=j%36:=by
 have key:∀a<36,∀b<36,(l8.cps[a]?).getD 0=(l8.cps[b]?).getD 0→a=b:=by decide+kernel
 have b1:=mod_lt i 36 (by decide)
 have b2:=mod_lt j 36 (by decide)
 have:=key (i%36).toNat (by omega) (j%36).toNat (by omega) h
 omega
theorem Dg(cell k:Int):∀n j,j<n→(kK cell k n).cps.toList[j]?=some (if(j:Int)=cell/12%(1+cell%12) then G8 (k+cell/144) else G8 (cell/144+5*(j:Int)+cell/5184%2*k*7))
 | 0,j,h=>by omega
 | n+1,j,h=>by
  have hl:(kK cell k n).cps.toList.length=n:=by rw[abc];exact(yU cell k n).1
  rw[kK,Df]
  by_cases e:j=n
  ·subst e
   rw[aa9 (by omega),hl,acm]
   split<;>rfl
  ·rw[aba (by omega)]
   exact Dg cell k n j (by omega)
theorem Ap{c i j:Int}(h0:0≤i)(h1:i<36)(h2:0≤j)(h3:j<36)(h:nameOf c i=nameOf c j):i=j:=by
 have b:=mod_lt c 12 (by decide)
 have b2:=mod_lt (c/12) (1+c%12) (by omega)
 have e1:=Dg c i (1+c%12).toNat (c/12%(1+c%12)).toNat (by omega)
 have e2:=Dg c j (1+c%12).toNat (c/12%(1+c%12)).toNat (by omega)
 have h:kK c i (1+c%12).toNat=kK c j (1+c%12).toNat:=h
 rw[h] at e1
 rw[e1] at e2
 rw[aar (by omega),aar (by omega)] at e2
 have:=Ik (aaA e2)
 omega
def P9(K:Qqy):Sp:=fun vs H Q _=>∃(a:Addr)(ns:List Int)(k:Int),vs=[.ref a,.int k]∧gH K H a (ns.map V.int)∧0≤k∧Q (.int (cellAt ns k)) H
theorem G9(T:Txt mg)(O:Ok K mg A):ij P w K mg base mr 1 A.sy A.sA ["script","k"] (P9 K):=by
 refine O.jc.f.qr yB fun jl A outer s H vs Q E hr h=>?_
 obtain⟨a,ns,k,rfl,ha,h0,q⟩:=h
 refine⟨_,(de (ik (ib D9 (pv 1) (gs gk (by rfl) T.iW aah (a_ (pv 0) d_)) (ip _)) (fR (hE (pE (pv 0) (pv 1)))) g_)
   (fR (hE gc))),?_⟩
 refine LD ?_;intro _
 refine⟨_,rfl,_,rfl,a,_,rfl,.inl ha,_,_,rfl,rfl,_,rfl,?_⟩
 refine kF (fun hc=>?_) (fun hc=>?_)
 ·have hc:k<((ns.map V.int).length:Int):=aak hc
  obtain⟨v,e,ev⟩:=rO h0 hc
  rw[Z4] at ev
  cases en:ns[k.toNat]? with
  | none=>rw[en] at ev;cases ev
  | some z=>
   rw[en] at ev
   cases ev
   unfold cellAt at q
   rw[en] at q
   exact⟨_,rfl,_,rfl,a,_,_,_,rfl,rfl,ha,e,q⟩
 ·have hc:¬k<((ns.map V.int).length:Int):=by simpa using hc
  unfold cellAt at q
  rw[TU] at hc
  rw[List.getElem?_eq_none (by omega)] at q
  exact q
def P_:Sp:=fun vs H Q _=>∃(c k:Int),vs=[.int c,.int k]∧Q (.str (nameOf c k)) H
theorem G_(T:Txt mg)(O:Ok K mg A):ij P w K mg base mr 1 A.x8 A.x9 ["cell","k"] P_:=by
 refine O.p_.f.qr jo fun jl A outer s H vs Q E hr h=>?_
 obtain⟨c,k,rfl,q⟩:=h
 refine⟨_,(de (kW 2 jo i8)
   (de (kW 3 jo (gr iC gc (gr iN (pv 0) gc)))
   (de (kW 4 jo (gr j7 (pv 0) gc))
   (de (kW 5 jo (gr rK (gr rK (gr iN (gr j7 (pv 0) gc) gc) (pv 1)) gc))
   (de (kW 6 jo i8)
   (de (il aam rfl (jh rfl T.jj (a_ (pv 3) d_)) (qY 7 jo) (fR (ik (ib l4 (pv 7) (gr iN (gr j7 (pv 0) gc) (pv 3)) (ip _)) (fR (kW 6 jo (gr zb (pv 6) (j5 FA (pv 2) (gr iN (gr iC (pv 1) (pv 4)) gc) (fun _ _=>rfl))))) (fR (kW 6 jo (gr zb (pv 6) (j5 FA (pv 2) (gr iN (gr iC (gr iC (pv 4) (gr rK gc (pv 7))) (pv 5)) gc) (fun _ _=>rfl))))))))
   (fR (hE (pv 6))))))))),?_⟩
 refine Z5 ?_;intro _ _ _ _ _ _
 have b:=mod_lt c 12 (by decide)
 have b2:=mod_lt (c/5184) 2 (by decide)
 refine⟨_,rfl,_,_,rfl,rfl,(by show(0:Int)<12;decide),_,_,rfl,rfl,?_⟩
 refine⟨_,rfl,_,_,rfl,rfl,⟨by decide,by decide⟩,?_⟩
 refine⟨_,rfl,_,_,rfl,rfl,⟨by decide,by decide⟩,_,_,rfl,rfl,(by show(0:Int)<2;decide),_,rfl,_,_,rfl,rfl,.inl ⟨by omega,by omega⟩,_,_,rfl,rfl,.inr ⟨by decide,by decide⟩,?_⟩
 refine⟨_,rfl,_,rfl,by omega,by omega,?_⟩
 let Jv:=fun(j:Nat) (σ:St) (H2:Hp)=>∃v,σ=[ri c,ri k,rs l8,ri (1+c%12),ri (c/144),ri (c/5184%2*k*7),rs (kK c k j),v]∧H2=H
 refine jB Jv ⟨none,rfl,rfl⟩ ?_ ?_
 ·rintro j σ H2 hj ⟨v,rfl,rfl⟩
  have hlen:=(yU c k j).1
  have hz:(kK c k j).length+1≤sizeLine:=XI (m:=13) (by omega) (by decide)
  refine⟨_,rfl,_,rfl,_,_,rfl,rfl,⟨by decide,by decide⟩,_,rfl,_,_,rfl,rfl,(by show(0:Int)<1+c%12;omega),rfl,_,rfl,?_⟩
  refine kF (fun hc=>?_) (fun hc=>?_)
  ·have hc:(0:Int)+(j:Int)=c/12%(1+c%12):=V.int.inj (aak hc)
   obtain⟨cp,e,es,_⟩:=yT (k+c/144)
   refine⟨_,rfl,_,rfl,_,rfl,_,rfl,_,_,rfl,rfl,_,_,rfl,rfl,(by show(0:Int)<36;decide),_,_,cp,rfl,rfl,by rw[De];decide,e,_,_,rfl,rfl,hz,some (.int (0+(j:Int))),?_,rfl⟩
   rw[kK,aar (by omega),es]
   rfl
  ·have hc:¬(0:Int)+(j:Int)=c/12%(1+c%12):=fun z=>hc (WM (aa6 V.int z))
   obtain⟨cp,e,es,_⟩:=yT (c/144+5*(j:Int)+c/5184%2*k*7)
   refine⟨_,rfl,_,rfl,_,rfl,_,rfl,_,_,rfl,rfl,.inl ⟨by decide,by decide⟩,_,_,rfl,rfl,_,rfl,_,_,rfl,rfl,_,_,rfl,rfl,(by show(0:Int)<36;decide),_,_,cp,rfl,rfl,by rw[De];decide,by rw[Int.zero_add];exact e,_,_,rfl,rfl,hz,some (.int (0+(j:Int))),?_,rfl⟩
   rw[kK,aap (by omega),es]
   rfl
 ·rintro σ H2 ⟨v,rfl,rfl⟩
  refine⟨_,rfl,?_⟩
  have:(1+c%12-0).toNat=(1+c%12).toNat:=by rw[Int.sub_zero]
  exact q
def Qa:Sp:=fun vs H Q _=>∃(c k b:Int),vs=[.int c,.int k,.int b]∧0<b∧0≤k∧k≤1000∧∀x,0≤x→x<b→Q (.int x) H
theorem MW(T:Txt mg)(O:Ok K mg A):ij P w K mg base mr 1 A.xZ A.x5 ["cell","k","bound"] Qa:=by
 refine O.BR.f.qr qK fun jl A outer s H vs Q E hr h=>?_
 obtain⟨c,k,b,rfl,hb,RB,Ux,q⟩:=h
 refine⟨_,(de (kW 3 qK (gr iN (gr rK (gr iC (gr iC (gr iN (pv 0) gc) (gr rK gc (pv 1))) gc) gc) gc))
  (de (kW 3 qK (gr iN (gr rK (gr iC (pv 3) (gr rK gc (gr iC (pv 1) gc))) gc) gc))
  (fR (hE (gr iN (gr j7 (pv 3) gc) (pv 2)))))),?_⟩
 refine DO ?_;intro _ _
 refine⟨_,rfl,_,_,rfl,rfl,(by show(0:Int)<2147483647;decide),_,rfl,_,_,rfl,rfl,.inl ⟨by decide,by decide⟩,_,_,rfl,rfl,_,_,rfl,rfl,_,_,rfl,rfl,.inr ⟨by decide,by decide⟩,_,_,rfl,rfl,(by show(0:Int)<2147483647;decide),?_⟩
 refine⟨_,rfl,_,rfl,_,_,rfl,rfl,_,_,rfl,rfl,.inl ⟨by decide,by decide⟩,_,_,rfl,rfl,_,_,rfl,rfl,.inr ⟨by decide,by decide⟩,_,_,rfl,rfl,(by show(0:Int)<2147483629;decide),?_⟩
 exact⟨_,rfl,_,_,rfl,rfl,⟨by decide,by decide⟩,_,rfl,_,_,rfl,rfl,hb,q _ (mod_lt _ b hb).1 (mod_lt _ b hb).2⟩
noncomputable def xc:Str:=Str.ofString " !#$&()*+,-./0123456789:;<=>?@ABCDEFGHIJKLMNOPQRSTUVWXYZ[]^_abcdefghijklmnopqrstuvwxyz{|}~"
theorem tG:xc.length=90:=by decide+kernel
def Qb:Sp:=fun vs H Q _=>∃(c:Int),vs=[.int c]∧∀x H',gj H H'→Q (.str x) H'
theorem E6:∀(xs:List Str),(∀x∈xs,x.length=1)→(xs.map (·.length)).sum=xs.length
 | [],_=>rfl
 | x::r,h=>by
  rw[aax,List.sum_cons,h x aal,E6 r fun y hy=>h y (aae _ hy),aac]
  omega
theorem MX(T:Txt mg)(O:Ok K mg A):ij P w K mg base mr 1 A.x_ A.ya ["cell"] Qb:=by
 refine O.wX.f.qr lO fun jl A outer s H vs Q E hr h=>?_
 obtain⟨c,rfl,q⟩:=h
 refine⟨_,(de (lq (i:=1) lO.nd rfl (Or.inr rfl) i8)
   (de (ik (ib l4 (gr iN (pv 0) gc) gc (ip _)) (fR (hE (pE (iO (a_ i8 (a_ i8 (a_ i8 (a_ i8 d_))))) (gr iN (gr j7 (pv 0) gc) gc)))) g_)
   (de (kW 2 lO (gr iN (gr j7 (pv 0) gc) gc))
   (de (qo (ik (ib l4 (gr iN (gr j7 (pv 0) gc) gc) gc (ip _)) (fR (kW 2 lO gc)) g_))
   (fR (hE (nP PySem.F.plainAttrs_str PySem.F.slot_str_join PySem.F.type_str_join Mc i8 (a_ (xx xF (f_ oK).names [3] rfl (jh rfl T.jj (a_ (pv 2) d_)) rfl (by decide+kernel) (fun _ _ _ _=>(iw (i:=3) lO.nd rfl (Or.inl rfl))) (fun _ _ _ _=>nV) (fun _ _ _ _=>AX (j5 FA (pv 1) (gr iN (gr iC (gr j7 (pv 0) gc) (gr rK gc (pv 3))) (gs uX (by rfl) T.iW aah (a_ (pv 1) d_))) (fun _ _=>rfl)))) d_)))))))),?_⟩
 refine Pc ?_;intro _ _ _ _
 refine⟨_,rfl,_,_,rfl,rfl,(by show(0:Int)<3;decide),rfl,_,rfl,?_⟩
 refine kF (fun _=>?_) (fun _=>?_)
 ·refine⟨jA,fun l hl=>?_⟩
  refine⟨_,rfl,_,_,rfl,rfl,⟨by decide,by decide⟩,_,_,rfl,rfl,(by show(0:Int)<4;decide),?_⟩
  have b:=mod_lt (c/3) 4 (by decide)
  obtain⟨v,e,ev⟩:=rO (xs:=[V.str (Str.ofString "a"),V.str (Str.ofString "b"),V.str (Str.ofString ""),V.str (Str.ofString " ")]) b.1 (by simpa using b.2)
  refine⟨l,_,_,v,rfl,rfl,gH.of b_,e,?_⟩
  have hv:∃x,v=V.str x:=by
   have hm:=WI ev
   simp at hm
   rcases hm with rfl|rfl|rfl|rfl<;>exact⟨_,rfl⟩
  obtain⟨x,rfl⟩:=hv
  exact q x _ ((gj.refl H).new hl)
 ·refine⟨_,rfl,_,_,rfl,rfl,⟨by decide,by decide⟩,_,_,rfl,rfl,(by show(0:Int)<5;decide),?_⟩
  have b:=mod_lt (c/3) 5 (by decide)
  refine⟨fun σ H2=>∃(z:Int)(v:Option V),σ=[ri c,rs xc,ri z,v]∧H2=H∧0≤z∧z≤80,?_,?_⟩
  ·refine⟨_,rfl,_,_,rfl,rfl,⟨by decide,by decide⟩,_,_,rfl,rfl,(by show(0:Int)<9;decide),rfl,_,rfl,?_⟩
   refine kF (fun _=>?_) (fun _=>?_)
   ·exact⟨80,_,rfl,rfl,by decide,by decide⟩
   ·exact⟨_,_,rfl,rfl,b.1,by omega⟩
  ·rintro σ H2 ⟨z,v,rfl,rfl,z0,z1⟩
   refine⟨rfl,_,rfl,_,rfl,by omega,by omega,?_⟩
   let Jv:=fun(m:Nat) (ys:List V) (σ:St) (H3:Hp)=>∃(v:Option V)(xs:List Str),σ=[ri c,rs xc,ri z,v]∧H3=H2∧ys=gp xs∧xs.length=m∧∀x∈xs,x.length=1
   refine nX (by have:sizeLine=2 ^ 24:=rfl;omega) Jv
    ⟨none,[],rfl,rfl,rfl,rfl,fun x hx=>nomatch hx⟩ (by rintro _ _ _ _ ⟨_,xs,_,_,e,e2,_⟩;rw[e,TU];omega) ?_ ?_
   ·rintro m ys σ H3 hm ⟨v,xs,rfl,rfl,rfl,hx,h1⟩
    refine⟨_,rfl,_,rfl,_,_,rfl,rfl,⟨by decide,by decide⟩,_,rfl,_,_,rfl,rfl,.inl ⟨by decide,by decide⟩,_,_,rfl,rfl,_,rfl,_,rfl,by rw[tG];decide,_,_,rfl,rfl,(by show(0:Int)<(xc.length:Int);rw[tG];decide),?_⟩
    have b:=mod_lt (c/45+7*(0+(m:Int))) (xc.length:Int) (by rw[tG];decide)
    obtain⟨cp,e,_⟩:=rO (xs:=xc.cps.toList) b.1 (by rw[abc];exact b.2)
    refine⟨_,_,cp,rfl,rfl,by rw[tG];decide,e,?_⟩
    refine⟨_,xs++[⟨#[cp]⟩],rfl,rfl,jv _ _,by rw[W4,hx];rfl,fun x Lo=>?_⟩
    rcases Z3.mp Lo with Lo|Lo
    ·exact h1 x Lo
    ·rw[WG.mp Lo];rfl
   ·rintro ys σ H3 ⟨v,xs,rfl,rfl,rfl,hx,h1⟩ p hp
    refine⟨_,p,xs,rfl,rfl,gH.of b_,?_,?_⟩
    ·rw[E6 xs h1]
     have:(Str.ofString "").length=0:=by decide+kernel
     rw[this]
     omega
    ·exact q _ _ ((gj.refl H3).new hp)
theorem vV(l:List Str)(k:Nat):tJ (gp l) none (some (k:Int))=gp (l.take k):=by
 unfold tJ
 rw[HT.zd,HT.Ce,Nat.sub_zero,List.drop_zero]
 unfold gp
 rw[TU,←List.map_take]
 congr 1
 by_cases h:k≤l.length
 ·rw[Nat.min_eq_left h]
 ·rw[Nat.min_eq_right (by omega),abR (WL _),abR (by omega)]
theorem E7(l:List Str)(k:Nat):tJ (gp l) (some (k:Int)) none=gp (l.drop k):=by
 unfold tJ
 rw[HT.zd,HT.Ce,abR (by rw[List.length_drop];exact WL _)]
 unfold gp
 rw[TU,←List.map_drop]
 congr 1
 by_cases h:k≤l.length
 ·rw[Nat.min_eq_left h]
 ·rw[Nat.min_eq_right (by omega),List.drop_of_length_le (WL _),List.drop_of_length_le (by omega)]
theorem xf(l:List Str){z:Int}{k:Nat}(h:z=(k:Int)):tJ (gp l) (some z) none=gp (l.drop k):=by rw[h,E7]
structure Gi(ts LP:List Str):Prop where
 ne:ts≠LP
 len:LP.length≤ts.length+3
 near:LP.length≤K01.lcs ts LP+3
theorem Aq{x y s:List Str}(h1:s.Sublist x)(h2:s.Sublist y):s.length≤K01.lcs x y:=(K01.j8 x y).1 s h1 h2
theorem Dh{ts LP:List Str}(h:ts.length≠LP.length):ts≠LP:=fun z=>h (aa6 List.length z)
theorem Il(ts:List Str)(k:Nat)(x:Str):Gi ts (ts.take k++[x]++ts.drop k):=by
 have hl:(ts.take k++[x]++ts.drop k).length=ts.length+1:=by simp;omega
 have hs:ts.Sublist (ts.take k++[x]++ts.drop k):=by
  conv=>lhs;rw[←abG k ts]
  rw[aaQ]
  exact(aaF _).append (aa5 _ _)
 have:=Aq (aaF ts) hs
 exact⟨Dh (by omega),by omega,by omega⟩
theorem KL(ts:List Str)(k:Nat)(h:k<ts.length):Gi ts (ts.take k++ts.drop (k+1)):=by
 have hl:(ts.take k++ts.drop (k+1)).length=ts.length-1:=by simp;omega
 have hs:(ts.take k++ts.drop (k+1)).Sublist ts:=by
  conv=>rhs;rw[←abG k ts]
  refine(aaF _).append ?_
  rw[aaT h]
  exact abz _ _
 have:=Aq hs (aaF _)
 exact⟨Dh (by omega),by omega,by omega⟩
theorem Gj(ts:List Str)(k:Nat)(x:Str)(h:k<ts.length)(hx:ts[k]≠x):Gi ts (ts.take k++[x]++ts.drop (k+1)):=by
 have hl:(ts.take k++[x]++ts.drop (k+1)).length=ts.length:=by simp;omega
 have hs:(ts.take k++ts.drop (k+1)).Sublist ts:=by
  conv=>rhs;rw[←abG k ts]
  refine(aaF _).append ?_
  rw[aaT h]
  exact abz _ _
 have Bn:(ts.take k++ts.drop (k+1)).Sublist (ts.take k++[x]++ts.drop (k+1)):=by
  rw[aaQ]
  exact(aaF _).append (aa5 _ _)
 have:=Aq hs Bn
 have K5:(ts.take k++ts.drop (k+1)).length=ts.length-1:=by simp;omega
 refine⟨fun z=>hx ?_,by omega,by omega⟩
 have e:ts[k]?=(ts.take k++[x]++ts.drop (k+1))[k]?:=by rw[←z]
 rw[aaQ,aa9 (by rw[aay];omega),aay,show k-min k ts.length=0 by omega,TZ h] at e
 exact aaA e
theorem Gk(ts:List Str)(k:Nat)(x y z:Str):Gi ts ([x]++(ts.take k++[y]++ts.drop k)++[z]):=by
 have hl:([x]++(ts.take k++[y]++ts.drop k)++[z]).length=ts.length+3:=by simp;omega
 have hs:ts.Sublist ([x]++(ts.take k++[y]++ts.drop k)++[z]):=by
  refine List.Sublist.trans ?_ (List.sublist_append_left _ _)
  refine List.Sublist.trans ?_ (aa5 _ _)
  conv=>lhs;rw[←abG k ts]
  rw[aaQ]
  exact(aaF _).append (aa5 _ _)
 have:=Aq (aaF ts) hs
 exact⟨Dh (by omega),by omega,by omega⟩
theorem Im(ts:List Str)(k:Nat)(x y z:Str)(h:k+1<ts.length):Gi ts (ts.take k++[x,y,z]++ts.drop (k+2)):=by
 have hl:(ts.take k++[x,y,z]++ts.drop (k+2)).length=ts.length+1:=by simp;omega
 have hs:(ts.take k++ts.drop (k+2)).Sublist ts:=by
  conv=>rhs;rw[←abG k ts]
  refine(aaF _).append ?_
  exact K01.zB (by omega)
 have Bn:(ts.take k++ts.drop (k+2)).Sublist (ts.take k++[x,y,z]++ts.drop (k+2)):=by
  rw[aaQ]
  exact(aaF _).append (aa5 _ _)
 have:=Aq hs Bn
 have K5:(ts.take k++ts.drop (k+2)).length=ts.length-2:=by simp;omega
 exact⟨Dh (by omega),by omega,by omega⟩
def Qc:Sp:=fun vs H Q _=>∃(t:Addr)(ts:List Str)(c:Int),vs=[.ref t,.int c]∧H t=some (.lst (gp ts))∧ts.length≤900∧∀p H' LP,gj H H'→H' p=some (.lst (gp LP))→Gi ts LP→Q (.ref p) H'
theorem MY(T:Txt mg)(O:Ok K mg A):ij P w K mg base mr 2 A.yb A.yc ["texts","cell"] Qc:=by
 have yp:=@MX P w K mg base A T O
 refine O.BS.f.qr kc fun jl A outer s H vs Q E hr h=>?_
 obtain⟨t,ts,c,rfl,ht,hl,q⟩:=h
 have sz:sizeLine=16777216:=aaw
 have et:((gp ts).length:Int)=(ts.length:Int):=by simp
 refine⟨_,(de (kW 2 kc (gr iN (gr j7 (pv 1) gc) (gr iC (gs gk (by rfl) T.iW aah (a_ (pv 0) d_)) gc)))
   (de (kW 3 kc (o_ O.wX yp hr (a_ (gr j7 (pv 1) gc) d_)))
   (de (kW 4 kc (gr nQ (gr nQ (lC nH (pv 0) nF (nG (pv 2))) (iO (a_ (pv 3) d_))) (lC nH (pv 0) (nG (pv 2)) nF)))
   (de (kW 5 kc (gr iN (pv 1) gc))
   (de (qo (ik ((pw_and (ib l4 (pv 5) gc (ip _)) (pw_and1 (ib y9 (gs gk (by rfl) T.iW aah (a_ (pv 0) d_)) gc (ip _)))).pt) (de (kW 6 kc (gr iN (pv 2) (gs gk (by rfl) T.iW aah (a_ (pv 0) d_))))
   (fR (hE (gr nQ (lC nH (pv 0) nF (nG (pv 6))) (lC nH (pv 0) (nG (gr iC (pv 6) gc)) nF))))) g_))
   (de (qo (ik ((pw_and (ib l4 (pv 5) gc (ip _)) (pw_and (ib D9 (pv 2) (gs gk (by rfl) T.iW aah (a_ (pv 0) d_)) (ip _)) (pw_and1 (ib D8 (pE (pv 0) (pv 2)) (pv 3) (ip _))))).pt) (fR (hE (gr nQ (gr nQ (lC nH (pv 0) nF (nG (pv 2))) (iO (a_ (pv 3) d_))) (lC nH (pv 0) (nG (gr iC (pv 2) gc)) nF)))) g_))
   (de (qo (ik (ib l4 (pv 5) gc (ip _)) (fR (hE (gr nQ (gr nQ (iO (a_ (pv 3) d_)) (pv 4)) (iO (a_ (o_ O.wX yp hr (a_ (gr j7 (pv 1) gc) d_)) d_))))) g_))
   (de (qo (ik ((pw_and (ib l4 (pv 5) gc (ip _)) (pw_and1 (ib D9 (gr iC (pv 2) gc) (gs gk (by rfl) T.iW aah (a_ (pv 0) d_)) (ip _)))).pt) (de (kW 7 kc (iO (a_ (pE (pv 0) (gr iC (pv 2) gc)) (a_ (pv 3) (a_ (pE (pv 0) (pv 2)) d_)))))
   (fR (hE (gr nQ (gr nQ (lC nH (pv 0) nF (nG (pv 2))) (pv 7)) (lC nH (pv 0) (nG (gr iC (pv 2) gc)) nF))))) g_))
   (fR (hE (pv 4))))))))))),?_⟩
 refine sl9 ?_;intro _ _ _ _ _ _ _ _
 refine⟨_,rfl,_,_,rfl,rfl,⟨by decide,by decide⟩,_,rfl,t,_,rfl,.inl (gH.of ht),_,_,rfl,rfl,_,_,rfl,rfl,(by rw[et];omega),?_⟩
 rw[et]
 have b:=mod_lt (c/5) ((ts.length:Int)+1) (by omega)
 obtain⟨k,hk⟩:∃k:Nat,c/5%((ts.length:Int)+1)=(k:Int):=⟨_,(Int.toNat_of_nonneg b.1).symm⟩
 dsimp only
 rw[hk]
 have IU:k≤ts.length:=by omega
 refine⟨_,rfl,_,_,rfl,rfl,⟨by decide,by decide⟩,c/30,rfl,fun x H1 s1=>?_⟩
 have ht1:=s1 _ _ ht
 refine⟨_,rfl,_,rfl,_,rfl,t,_,rfl,gH.of ht1,fun a ha=>?_⟩
 rw[vV]
 have s2:=s1.new (o:=.lst (gp (ts.take k))) ha
 have h2a:(upd H1 a (.lst (gp (ts.take k)))) a=some (.lst (gp (ts.take k))):=b_
 generalize upd H1 a (.lst (gp (ts.take k)))=H2 at s2 h2a
 refine⟨_,rfl,L2.jA,fun b0 Oh=>?_⟩
 have s3:=s2.new (o:=.lst [V.str x]) Oh
 refine⟨a,b0,_,_,rfl,rfl,ie Oh h2a,b_,by simp;omega,fun d hd=>?_⟩
 have s4:=s3.new (o:=.lst (gp (ts.take k)++[V.str x])) hd
 have h4d:(upd (upd H2 b0 (.lst [V.str x])) d (.lst (gp (ts.take k)++[V.str x]))) d=some (.lst (gp (ts.take k++[x]))):=by rw[b_,jv]
 generalize upd (upd H2 b0 (.lst [V.str x])) d (.lst (gp (ts.take k)++[V.str x]))=H4 at s4 h4d
 refine⟨_,rfl,_,rfl,_,rfl,t,_,rfl,gH.of (s4 _ _ ht),fun e he=>?_⟩
 rw[E7]
 have s5:=s4.new (o:=.lst (gp (ts.drop k))) he
 refine⟨d,e,_,_,rfl,rfl,ie he h4d,b_,by simp;omega,fun m hm=>?_⟩
 have s6:=s5.new (o:=.lst (gp (ts.take k++[x])++gp (ts.drop k))) hm
 have YQ:(upd (upd H4 e (.lst (gp (ts.drop k)))) m (.lst (gp (ts.take k++[x])++gp (ts.drop k)))) m=some (.lst (gp (ts.take k++[x]++ts.drop k))):=by rw[b_,nZ]
 generalize upd (upd H4 e (.lst (gp (ts.drop k)))) m (.lst (gp (ts.take k++[x])++gp (ts.drop k)))=H6 at s6 YQ
 have Lp:=s6 _ _ ht
 refine⟨_,rfl,_,_,rfl,rfl,(by show(0:Int)<5;decide),?_⟩
 refine⟨fun σ H7=>σ=[rr t,ri c,ri k,rs x,rr m,ri (c%5),none,none]∧H7=H6,?_,?_⟩
 ·refine⟨_,rfl,rfl,_,rfl,?_⟩
  refine kF (fun _=>?_) (fun _=>i_ ⟨rfl,rfl⟩)
  refine⟨_,rfl,t,_,rfl,.inl (gH.of Lp),_,_,rfl,rfl,_,rfl,?_⟩
  refine kF (fun h1=>?_) (fun _=>⟨rfl,rfl⟩)
  have h1:0<ts.length:=by have:=aak h1;rw[et] at this;omega
  refine⟨_,rfl,_,rfl,t,_,rfl,.inl (gH.of Lp),_,_,rfl,rfl,(by rw[et];omega),?_⟩
  have b2:=mod_lt (k:Int) (ts.length:Int) (by omega)
  obtain⟨o,ho⟩:∃o:Nat,(k:Int)%(ts.length:Int)=(o:Int):=⟨_,(Int.toNat_of_nonneg b2.1).symm⟩
  rw[et]
  dsimp only
  rw[ho]
  refine⟨_,rfl,_,rfl,_,rfl,t,_,rfl,gH.of Lp,fun a ha=>?_⟩
  have s7:=s6.new (o:=.lst (tJ (gp ts) none (some (o:Int)))) ha
  refine⟨_,rfl,_,rfl,_,_,rfl,rfl,_,rfl,t,_,rfl,gH.of (s7 _ _ ht),fun e he=>?_⟩
  have s8:=s7.new (o:=.lst (tJ (gp ts) (some ((o:Int)+1)) none)) he
  refine⟨a,e,gp (ts.take o),gp (ts.drop (o+1)),rfl,rfl,ie he (by rw[b_,vV]),by rw[b_,xf ts (k:=o+1) (by omega)],by simp;omega,fun p hp=>?_⟩
  refine q p _ _ (s8.new hp) ?_ (KL ts o (by omega))
  rw[b_,nZ]
 rintro σ H7 ⟨rfl,rfl⟩
 refine⟨fun σ H8=>σ=[rr t,ri c,ri k,rs x,rr m,ri (c%5),none,none]∧H8=H7,?_,?_⟩
 ·refine⟨_,rfl,rfl,_,rfl,?_⟩
  refine kF (fun _=>?_) (fun _=>i_ ⟨rfl,rfl⟩)
  refine⟨_,rfl,_,rfl,t,_,rfl,.inl (gH.of Lp),_,_,rfl,rfl,_,rfl,?_⟩
  refine kF (fun h1=>?_) (fun _=>i_ ⟨rfl,rfl⟩)
  have h1:k<ts.length:=by have:=aak h1;rw[et] at this;omega
  have hx:ts[k]?=some ts[k]:=TZ h1
  refine⟨_,rfl,_,rfl,t,_,_,_,rfl,rfl,gH.of Lp,ic rfl (oF hx),_,rfl,rfl,_,rfl,?_⟩
  refine kF (fun h2=>?_) (fun _=>⟨rfl,rfl⟩)
  have h2:ts[k]≠x:=fun z=>by rw[z] at h2;simp at h2
  refine⟨_,rfl,_,rfl,_,rfl,t,_,rfl,gH.of Lp,fun a ha=>?_⟩
  have s7:=s6.new (o:=.lst (tJ (gp ts) none (some (k:Int)))) ha
  rw[vV] at s7 ⊢
  refine⟨_,rfl,L2.jA,fun b0 Oh=>?_⟩
  have s8:=s7.new (o:=.lst [V.str x]) Oh
  refine⟨a,b0,_,_,rfl,rfl,ie Oh b_,b_,by simp;omega,fun d hd=>?_⟩
  have s9:=s8.new (o:=.lst (gp (ts.take k)++[V.str x])) hd
  refine⟨_,rfl,_,rfl,_,_,rfl,rfl,_,rfl,t,_,rfl,gH.of (s9 _ _ ht),fun e he=>?_⟩
  have DT:=s9.new (o:=.lst (tJ (gp ts) (some ((k:Int)+1)) none)) he
  refine⟨d,e,_,gp (ts.drop (k+1)),rfl,rfl,ie he b_,by rw[b_,xf ts (k:=k+1) (by omega)],by simp;omega,fun p hp=>?_⟩
  refine q p _ _ (DT.new hp) ?_ (Gj ts k x h1 h2)
  rw[b_,jv,nZ]
 rintro σ H8 ⟨rfl,rfl⟩
 refine⟨fun σ H9=>σ=[rr t,ri c,ri k,rs x,rr m,ri (c%5),none,none]∧H9=H8,?_,?_⟩
 ·refine⟨_,rfl,rfl,_,rfl,?_⟩
  refine kF (fun _=>?_) (fun _=>⟨rfl,rfl⟩)
  refine⟨_,rfl,L2.jA,fun a ha=>?_⟩
  have s7:=s6.new (o:=.lst [V.str x]) ha
  refine⟨_,rfl,a,m,_,_,rfl,rfl,b_,ie ha YQ,by simp;omega,fun b0 Oh=>?_⟩
  have s8:=s7.new (o:=.lst ([V.str x]++gp (ts.take k++[x]++ts.drop k))) Oh
  refine⟨_,rfl,_,_,rfl,rfl,⟨by decide,by decide⟩,c/60,rfl,fun y H9 s9=>⟨L2.jA,fun d hd=>?_⟩⟩
  have DT:=(s8.trans s9).new (o:=.lst [V.str y]) hd
  refine⟨b0,d,_,_,rfl,rfl,ie hd (s9 _ _ b_),b_,by simp;omega,fun p hp=>?_⟩
  refine q p _ _ (DT.new hp) ?_ (Gk ts k x x y)
  rw[b_]
  simp[gp]
 rintro σ H9 ⟨rfl,rfl⟩
 refine⟨fun σ Oj=>σ=[rr t,ri c,ri k,rs x,rr m,ri (c%5),none,none]∧Oj=H9,?_,?_⟩
 ·refine⟨_,rfl,rfl,_,rfl,?_⟩
  refine kF (fun _=>?_) (fun _=>i_ ⟨rfl,rfl⟩)
  refine⟨_,rfl,_,_,rfl,rfl,_,rfl,t,_,rfl,.inl (gH.of Lp),_,_,rfl,rfl,_,rfl,?_⟩
  refine kF (fun h1=>?_) (fun _=>⟨rfl,rfl⟩)
  have h1:k+1<ts.length:=by have:=aak h1;rw[et] at this;omega
  have hx:ts[k]?=some ts[k]:=TZ (by omega)
  have hy:ts[k+1]?=some ts[k+1]:=TZ h1
  refine⟨_,rfl,_,rfl,_,_,rfl,rfl,t,_,_,_,rfl,rfl,gH.of Lp,ic (j:=k+1) (by omega) (oF hy),_,rfl,_,rfl,_,rfl,t,_,_,_,rfl,rfl,gH.of Lp,ic rfl (oF hx),L2.jA,fun u hu=>?_⟩
  have s7:=s6.new (o:=.lst [V.str ts[k+1],V.str x,V.str ts[k]]) hu
  have h7u:(upd H9 u (.lst [V.str ts[k+1],V.str x,V.str ts[k]])) u=some (.lst (gp [ts[k+1],x,ts[k]])):=b_
  generalize upd H9 u (.lst [V.str ts[k+1],V.str x,V.str ts[k]])=YR at s7 h7u
  refine⟨_,rfl,_,rfl,_,rfl,t,_,rfl,gH.of (s7 _ _ ht),fun a ha=>?_⟩
  rw[vV]
  have s8:=s7.new (o:=.lst (gp (ts.take k))) ha
  refine⟨_,rfl,a,u,_,_,rfl,rfl,b_,ie ha h7u,by simp;omega,fun d hd=>?_⟩
  have s9:=s8.new (o:=.lst (gp (ts.take k)++gp [ts[k+1],x,ts[k]])) hd
  refine⟨_,rfl,_,rfl,_,_,rfl,rfl,_,rfl,t,_,rfl,gH.of (s9 _ _ ht),fun e he=>?_⟩
  have DT:=s9.new (o:=.lst (tJ (gp ts) (some ((k:Int)+2)) none)) he
  refine⟨d,e,_,gp (ts.drop (k+2)),rfl,rfl,ie he b_,by rw[b_,xf ts (k:=k+2) (by omega)],by simp;omega,fun p hp=>?_⟩
  refine q p _ _ (DT.new hp) ?_ (Im ts k ts[k+1] x ts[k] h1)
  rw[b_,nZ,nZ]
 rintro σ Oj ⟨rfl,rfl⟩
 exact⟨_,rfl,q m _ _ s6 YQ (Il ts k x)⟩
structure Sz(k:Nat)(D:Dk):Prop where
 many:D.made.length≤k
 iB:(D.made.flatMap (·.iB)).length≤3*k
 j9:(D.made.flatMap (·.j9)).length≤3*(k*k)
theorem Hc(k:Nat):(k+1)*(k+1)=k*k+2*k+1:=by simp only [Nat.mul_add,Nat.add_mul];omega
theorem Sz.up{k:Nat}{D:Dk}(z:Sz k D):Sz (k+1) D:=⟨Nat.le_succ_of_le z.many,by have:=z.iB;omega,by have:=z.j9;have:=Hc k;omega⟩
theorem Sz.keep{k:Nat}{D:Dk}(z:Sz k D)(s:Str){p:Pt}(hp:p.iB.length≤3)(hc:p.j9.length≤3*k+3):Sz (k+1) (D.keep s p):=by
 refine⟨?_,?_,?_⟩
 ·show(D.made++[p]).length≤_
  rw[W4];have:=z.many;show _+1≤_;omega
 ·show((D.made++[p]).flatMap (·.iB)).length≤_
  rw[abe,W4,aaH,abN,aaK];have:=z.iB;omega
 ·show((D.made++[p]).flatMap (·.j9)).length≤_
  rw[abe,W4,aaH,abN,aaK];have:=z.j9;have:=Hc k;omega
theorem Sz.small{k:Nat}{D:Dk}(z:Sz k D)(h:k≤36):Small D.made:=by
 have h2:k*k≤36*36:=Nat.mul_le_mul h h
 exact⟨XI z.many (by omega),XI z.iB (by omega),XI z.j9 (by omega)⟩
theorem Sz.row{k:Nat}{D:Dk}(z:Sz k D)(I:Inv D)(s f:Str):(D.row s f).length≤3*k:=XI (I.oH s f) z.iB
theorem uD(D:Dk)(s:Str)(p:Pt):(D.keep s p).names=D.names++[p.nm]:=by
 show(D.made++[p]).map (·.nm)=_
 rw[aat];rfl
theorem Io{x f:Str}{row:List Ln}{texts:List Str}(e:Gi (row.map (·.tx)) texts):(mE x f row texts).iB.length≤3:=by
 have rise:=tj (row.map (·.tx)) texts
 rw[TU] at rise
 have h:=GU rise x
 rw[K01.xA] at h
 have:=e.near
 show(kI x texts _).length≤3
 omega
theorem pick{xs:List Str}{i:Int}(h0:0≤i)(h:i<(xs.length:Int)):∃x,Fo (gp xs) i=some (V.str x)∧x∈xs:=by
 obtain⟨v,e,ev⟩:=rO (xs:=gp xs) h0 (by simpa using h)
 obtain⟨x,hx,rfl⟩:=mv ev
 exact⟨x,e,WI hx⟩
def Qd(A:Ad):Sp:=fun vs H Q _=>∃(d ss fs:Addr)(D:Dk)(W:Addr→Prop)(k:Nat)(stores files:List Str)(c:Int)(x:Str)(b:Bool),vs=[.ref d,.ref ss,.ref fs,.int c,.str x,.bl b]∧iq A H d D W∧Inv D∧Sz k D∧k<36∧
 H ss=some (.lst (gp stores))∧stores≠[]∧stores.length≤1000∧(∀s∈stores,s∈D.stores∧kT s)∧H fs=some (.lst (gp files))∧files≠[]∧files.length≤1000∧(∀f∈files,Good f)∧Good x∧x∉D.names∧(∀z∈D.names,kT z)∧
 ∀H' D',iq A H' d D' W→o7 W H H'→Inv D'→Sz (k+1) D'→D'.stores=D.stores→(D'.names=D.names∨D'.names=D.names++[x])→Q .jm H'
theorem MZ(T:Txt mg)(O:Ok K mg A):ij P w K mg base mr 7 A.yd A.ye ["desk","stores","files","cell","name","backs"] (Qd A):=by
 have qQ:=(@KA P w K mg base A T O).FJ
 have jR:=(@Gf P w K mg base A T O).FJ
 have Ff:=(@MU P w K mg base A T O).FJ
 have Fg:=(@MS P w K mg base A T O).FJ
 have sX:=(@G5 P w K mg base A T O).FJ
 have ll:=(@ym P w K mg base A T O).FJ
 have Bt:=(@Ij P w K mg base A T O).FJ
 have uF:=(@KH P w K mg base A T O).FJ
 have Fh:=@MY P w K mg base A T O
 refine O.BU.f.qr jq fun jl A0 outer s H vs Q E hr h=>?_
 obtain⟨d,ss,fs,D,W,k,stores,files,c,x,bk,rfl,X,I,z,hk,QS,hs0,K9,rE,Aw,RF,YG,hfg,gx,hx,Na,q⟩:=h
 obtain⟨π,y⟩:=id X
 have sz:sizeLine=16777216:=aaw
 have sm:=z.small (by omega)
 have jA:uN D.made.length:=sm.many
 have v_:D.made.length≤4000:=jA
 have es:((gp stores).length:Int)=(stores.length:Int):=by simp
 have ef:((gp files).length:Int)=(files.length:Int):=by simp
 have Xw:0<stores.length:=List.length_pos_iff.mpr hs0
 have VQ:0<files.length:=List.length_pos_iff.mpr RF
 refine⟨_,(de (kW 6 jq (pE (pv 1) (gr iN (pv 3) (gs gk (by rfl) T.iW aah (a_ (pv 1) d_)))))
   (de (kW 7 jq (pE (pv 2) (gr iN (gr j7 (pv 3) gc) (gs gk (by rfl) T.iW aah (a_ (pv 2) d_)))))
   (de (kW 8 jq (gr iN (gr j7 (pv 3) gc) gc))
   (de (kW 9 jq (gr j7 (pv 3) gc))
   (de (Ek (j:=10) xG (f_ oM).names [13] jq.nd rfl rfl rfl (ir (uZ (pv 0) O.gF O.vM qQ hr (a_ (pv 6) (a_ (pv 7) d_)))) rfl (by decide+kernel) (fun _ _ _ _=>(iw (i:=13) jq.nd rfl (Or.inl rfl))) (fun _ _ _ _=>nV) (fun _ _ _ _=>AX (j5 o9 (pv 13) gc (fun _ _=>rfl))))
   (fR (ik (FR ((pw_and (ib l4 (pv 8) gc (ip _)) (pw_and (kr (pv 5)) (pw_and1 (ib y9 (gs gk (by rfl) T.iW aah (a_ (uZ (pv 0) O.gF O.lU jR hr (a_ (pv 6) d_)) d_)) gc (ip _))))).pt)) (fR (hX (uZ (pv 0) O.gF O.BP Ff hr (a_ (pv 6) (a_ (pv 4) (a_ (pE (uZ (pv 0) O.gF O.lU jR hr (a_ (pv 6) d_)) (gr iN (pv 9) (gs gk (by rfl) T.iW aah (a_ (uZ (pv 0) O.gF O.lU jR hr (a_ (pv 6) d_)) d_)))) d_)))))) (fR (ik (FR ((pw_and (ib l4 (pv 8) gc (ip _)) (pw_and (ib l4 (gr iN (pv 9) gc) gc (ip _)) (pw_and1 (ib y9 (gs gk (by rfl) T.iW aah (a_ (uZ (pv 0) O.gF O.lU jR hr (a_ (pv 6) d_)) d_)) gc (ip _))))).pt)) (fR (hX (uZ (pv 0) O.gF O.BQ Fg hr (a_ (pv 6) (a_ (pE (uZ (pv 0) O.gF O.lU jR hr (a_ (pv 6) d_)) (rJ nO gc)) d_))))) (fR (ik (ib y9 (pv 8) gc (ip _)) (de (kW 11 jq (pE (pv 1) (gr iN (pv 9) (gs gk (by rfl) T.iW aah (a_ (pv 1) d_)))))
   (de (kW 12 jq (uZ (pv 0) O.gF O.lU jR hr (a_ (pv 11) d_)))
   (fR (ik (ib y9 (gs gk (by rfl) T.iW aah (a_ (pv 12) d_)) gc (ip _)) (fR (hX (uZ (pv 0) O.gF O.wV sX hr (a_ (pv 6) (a_ (pv 11) (a_ (pE (pv 12) (gr iN (gr j7 (pv 9) gc) (gs gk (by rfl) T.iW aah (a_ (pv 12) d_)))) d_)))))) g_)))) (fR (ik (ib l4 (gs gk (by rfl) T.iW aah (a_ (uZ (pv 0) O.gF O.mz ll hr (a_ (pv 6) (a_ (pv 7) d_))) d_)) gc (ip _)) (fR (hX (uZ (pv 0) O.gF O.yk Bt hr (a_ (pv 6) (a_ (pv 4) (a_ (pv 7) (a_ (o_ O.BS Fh hr (a_ (pv 10) (a_ (pv 9) d_))) d_))))))) (fR (hX (uZ (pv 0) O.gF O.z8 uF hr (a_ (pv 6) (a_ (pv 4) (a_ (pv 7) (a_ (iO (a_ (gr iN (pv 9) (gs gk (by rfl) T.iW aah (a_ (pv 10) d_))) d_)) d_)))))))))))))))))))),?_⟩
 refine So ?_;intro _ _ _ _ _
 have b1:=mod_lt c (stores.length:Int) (by omega)
 obtain⟨st,UH,Nn⟩:=pick (xs:=stores) b1.1 b1.2
 have b2:=mod_lt (c/7) (files.length:Int) (by omega)
 obtain⟨f,UI,hf2⟩:=pick (xs:=files) b2.1 b2.2
 obtain⟨AB,IY⟩:=rE st Nn
 have gf:=hfg f hf2
 refine⟨_,rfl,_,rfl,_,rfl,ss,_,rfl,.inl (gH.of QS),_,_,rfl,rfl,(by rw[es];omega),ss,_,_,_,rfl,rfl,gH.of QS,(by rw[es];exact UH),?_⟩
 refine⟨_,rfl,_,rfl,_,_,rfl,rfl,⟨by decide,by decide⟩,_,rfl,fs,_,rfl,.inl (gH.of Aw),_,_,rfl,rfl,(by rw[ef];omega),fs,_,_,_,rfl,rfl,gH.of Aw,(by rw[ef];exact UI),?_⟩
 refine⟨_,rfl,_,_,rfl,rfl,⟨by decide,by decide⟩,_,_,rfl,rfl,(by show(0:Int)<6;decide),?_⟩
 refine⟨_,rfl,_,_,rfl,rfl,⟨by decide,by decide⟩,?_⟩
 refine⟨_,rfl,d,π.dx,_,rfl,y.hd,Ge,_,rfl,_,rfl,d,D,W,st,f,rfl,X,IY,sm,I,fun h=>absurd AB h,fun _ r H1 s1 pF ⟨vs,xj,B8⟩=>?_⟩
 have DQ:=z.row I st f
 have UJ:=aaj B8
 let Jv:=fun(i:Nat) (ys:List V) (σ:St) (H4:Hp)=>∃(Nf:Option V),σ=[rr d,rr ss,rr fs,ri c,rs x,some (.bl bk),rs st,rs f,ri (c/11%6),ri (c/66),none,none,none,Nf]∧H4=H1∧ys=gp (((D.row st f).take i).map (·.tx))
 refine⟨r,rfl,⟨_,gH.of xj⟩,kO (K:=K) (a:=r) (xs:=vs) (by omega) Jv
  ⟨none,rfl,rfl,rfl⟩ (by rintro _ _ _ _ _ ⟨_,_,e,e2⟩;rw[e,e2];exact⟨gH.of xj,by rw[TU,TU,aay];omega⟩) ?_ ?_⟩
 ·rintro i v ys σ H4 hx ⟨Nf,rfl,rfl,rfl⟩
  obtain⟨ln,uO,t,rfl,ht⟩:=iz B8 hx
  refine⟨_,rfl,t,_,_,_,rfl,rfl,rG.of ht,ic (j:=2) rfl rfl,_,rfl,rfl,?_⟩
  rw[take_snoc uO,aat,jv]
  rfl
 rintro ys σ H4 ⟨Nf,rfl,rfl,rfl⟩ UK Ug
 rw[UJ,aaq]
 have s2:=s1.new (o:=.lst (gp ((D.row st f).map (·.tx)))) Ug
 have UL:(upd H4 UK (.lst (gp ((D.row st f).map (·.tx))))) UK=some (.lst (gp ((D.row st f).map (·.tx)))):=b_
 generalize upd H4 UK (.lst (gp ((D.row st f).map (·.tx))))=H2 at s2 UL
 have X2:=X.same s2
 have Lq:(((D.row st f).map (·.tx)).length:Int)=((D.row st f).length:Int):=by rw[TU]
 have el:∀l:List Str,((gp l).length:Int)=(l.length:Int):=fun l=>by simp
 have hasB:∀u,(D.has u).length≤D.made.length:=fun u=>by
  rw[Dk.GV,TU];exact aaE _ _
 have QT:∀u,∀v∈D.has u,v∈D.held u∧v∈D.names:=fun u v hv=>by
  obtain⟨h1,h2⟩:=aao.mp hv
  exact⟨aak h2,h1⟩
 refine⟨fun b H3=>gj H2 H3∧(b=true→D.has st≠[]),?_,?_⟩
 ·refine⟨_,rfl,rfl,_,rfl,?_⟩
  refine kF (fun _=>?_) (fun _=>⟨gj.refl _,fun z=>by cases z⟩)
  refine⟨_,rfl,_,rfl,?_⟩
  refine kF (fun _=>?_) (fun _=>⟨gj.refl _,fun z=>by cases z⟩)
  refine⟨_,rfl,d,π.dx,_,rfl,s2 _ _ y.hd,sS,_,rfl,d,D,W,st,rfl,X2,IY,jA,fun h=>absurd AB h,fun _ p qj=>?_⟩
  refine⟨p,_,rfl,.inl (gH.of b_),_,_,rfl,rfl,_,rfl,(gj.refl H2).new qj,fun h e=>?_⟩
  rw[e] at h
  exact absurd (aak h) (by decide)
 rintro b H3 ⟨Om,hb⟩
 have s3:=s2.trans Om
 have X3:=X.same s3
 cases b with
 | true=>
  have rB:=hb rfl
  have UM:0<(D.has st).length:=List.length_pos_iff.mpr rB
  refine kD ?_
  refine⟨_,rfl,d,π.dx,_,rfl,s3 _ _ y.hd,ML,_,rfl,_,rfl,_,rfl,d,π.dx,_,rfl,s3 _ _ y.hd,sS,_,rfl,d,D,W,st,rfl,X3,IY,jA,fun h=>absurd AB h,fun _ p qj=>?_⟩
  have s4:=s3.new (o:=.lst (gp (D.has st))) qj
  refine⟨_,rfl,_,rfl,d,π.dx,_,rfl,s4 _ _ y.hd,sS,_,rfl,d,D,W,st,rfl,X.same s4,IY,jA,fun h=>absurd AB h,fun _ p2 AZ=>?_⟩
  have s5:=s4.new (o:=.lst (gp (D.has st))) AZ
  have b3:=mod_lt (c/66) ((D.has st).length:Int) (by omega)
  obtain⟨o,eo,ho⟩:=pick (xs:=D.has st) b3.1 b3.2
  obtain⟨VR,VS⟩:=QT st o ho
  refine⟨p2,_,rfl,.inl (gH.of b_),_,_,rfl,rfl,(by rw[el];omega),p,_,_,_,rfl,rfl,gH.of (ie AZ b_),(by rw[el];exact eo),?_⟩
  refine⟨d,D,W,st,x,o,rfl,X.same s5,I,jA,IY,gx.xb,Na o VS,fun h=>absurd AB h,fun _ h=>absurd gx h,fun _ _ h=>absurd h hx,fun _ _ _ h=>absurd VR h,fun _ _ _ _ H' X' s'=>?_⟩
  exact q H' _ X' (fun b o e n=>s' b o (s5 _ _ e) n) (I.back AB hx VR) (z.keep st (aaz _) (aaz _)) rfl (.inr (uD D st _))
 | false=>
 refine i_ ?_
 refine⟨fun b H4=>gj H3 H4∧(b=true→D.has st≠[]),?_,?_⟩
 ·refine⟨_,rfl,rfl,_,rfl,?_⟩
  refine kF (fun _=>?_) (fun _=>⟨gj.refl _,fun z=>by cases z⟩)
  refine⟨_,rfl,_,_,rfl,rfl,(by show(0:Int)<4;decide),rfl,_,rfl,?_⟩
  refine kF (fun _=>?_) (fun _=>⟨gj.refl _,fun z=>by cases z⟩)
  refine⟨_,rfl,d,π.dx,_,rfl,s3 _ _ y.hd,sS,_,rfl,d,D,W,st,rfl,X3,IY,jA,fun h=>absurd AB h,fun _ p qj=>?_⟩
  refine⟨p,_,rfl,.inl (gH.of b_),_,_,rfl,rfl,_,rfl,(gj.refl H3).new qj,fun h e=>?_⟩
  rw[e] at h
  exact absurd (aak h) (by decide)
 rintro b H4 ⟨Lm,hb⟩
 have s4:=s3.trans Lm
 have X4:=X.same s4
 cases b with
 | true=>
  have rB:=hb rfl
  obtain⟨zs,la,VT⟩:∃zs la,D.has st=zs++[la]:=⟨_,_,(List.dropLast_concat_getLast rB).symm⟩
  have Vx:=QT st la (by rw[VT];simp)
  refine kD ?_
  refine⟨_,rfl,d,π.dx,_,rfl,s4 _ _ y.hd,MM,_,rfl,_,rfl,d,π.dx,_,rfl,s4 _ _ y.hd,sS,_,rfl,d,D,W,st,rfl,X4,IY,jA,fun h=>absurd AB h,fun _ p qj=>?_⟩
  have s5:=s4.new (o:=.lst (gp (D.has st))) qj
  have N7:Fo (gp (D.has st)) (-1)=some (V.str la):=by rw[VT,←jv];exact ze _ _
  refine⟨_,rfl,p,_,_,_,rfl,rfl,gH.of b_,N7,?_⟩
  refine⟨d,D,W,st,la,rfl,X.same s5,I,jA,IY,Na la Vx.2,Na,fun h=>absurd AB h,fun _ h=>absurd Vx.1 h,fun _ _ h=>absurd (I.BM AB VT) h,fun _ _ _ H' X' s'=>?_⟩
  exact q H' _ X' (fun b o e n=>s' b o (s5 _ _ e) n) (I.drop AB (I.BM AB VT)) ⟨z.up.many,z.up.iB,z.up.j9⟩ rfl (.inl rfl)
 | false=>
 refine i_ ?_
 refine⟨_,rfl,_,_,rfl,rfl,_,rfl,?_⟩
 refine kF (fun _=>?_) (fun _=>?_)
 ·have b3:=mod_lt (c/66) (stores.length:Int) (by omega)
  obtain⟨so,II,YS⟩:=pick (xs:=stores) b3.1 b3.2
  obtain⟨Nu,UN⟩:=rE so YS
  refine⟨_,rfl,_,rfl,_,rfl,ss,_,rfl,.inl (gH.of (s4 _ _ QS)),_,_,rfl,rfl,(by rw[es];omega),ss,_,_,_,rfl,rfl,gH.of (s4 _ _ QS),(by rw[es];exact II),?_⟩
  refine⟨_,rfl,d,π.dx,_,rfl,s4 _ _ y.hd,sS,_,rfl,d,D,W,so,rfl,X4,UN,jA,fun h=>absurd Nu h,fun _ p qj=>?_⟩
  have s5:=s4.new (o:=.lst (gp (D.has so))) qj
  refine⟨_,rfl,p,_,rfl,.inl (gH.of b_),_,_,rfl,rfl,_,rfl,?_⟩
  refine kF (fun h=>?_) (fun _=>?_)
  ·have h:0<(D.has so).length:=by have:=aak h;rw[el] at this;omega
   have b4:=mod_lt (c/66/5) ((D.has so).length:Int) (by omega)
   obtain⟨o,eo,ho⟩:=pick (xs:=D.has so) b4.1 b4.2
   obtain⟨VR,VS⟩:=QT so o ho
   refine⟨_,rfl,d,π.dx,_,rfl,s5 _ _ y.hd,G3,_,rfl,_,rfl,_,rfl,_,rfl,_,_,rfl,rfl,⟨by decide,by decide⟩,_,rfl,p,_,rfl,.inl (gH.of b_),_,_,rfl,rfl,(by rw[el];omega),p,_,_,_,rfl,rfl,gH.of b_,(by rw[el];exact eo),?_⟩
   refine⟨d,D,W,st,so,o,rfl,X.same s5,I,jA,IY,UN,Na o VS,fun h=>absurd AB h,fun _ h=>absurd Nu h,fun _ _ h=>absurd VR h,fun _ _ _ cm H6 H' s6 Nj _ X' s'=>?_⟩
   exact q H' _ X' (fun b o e n=>s' b o (by rw[e_ (gh (s6 _ _ (s5 _ _ e)) Nj)];exact s6 _ _ (s5 _ _ e)) n) (I.take AB VS) ⟨z.up.many,z.up.iB,z.up.j9⟩ rfl (.inl rfl)
  ·exact q _ D (X.same s5) (o7.of s5) I z.up rfl (.inl rfl)
 refine⟨_,rfl,d,π.dx,_,rfl,s4 _ _ y.hd,sT,_,rfl,_,rfl,d,D,W,st,f,rfl,X4,IY,sm,I,fun h=>absurd AB h,fun _ p H5 qs IX qj Nk AZ=>?_⟩
 have s5:=s4.trans IX
 have Lh:=aaj AZ
 have UO:=IX _ _ (Lm _ _ (Om _ _ UL))
 refine⟨p,_,rfl,.inl (gH.of Nk),rfl,_,rfl,?_⟩
 refine kF (fun h=>?_) (fun h=>?_)
 ·have hq:D.pO st f=[]:=by
   have:=V.int.inj (aak h)
   rw[←Lh] at this
   exact aaG.mp (by omega)
  refine⟨_,rfl,d,π.dx,_,rfl,s5 _ _ y.hd,Ib,_,rfl,_,rfl,_,rfl,_,rfl,_,rfl,UK,(D.row st f).map (·.tx),c/66,rfl,UO,by rw[TU];omega,fun t H6 ts Yt Lp ed=>?_⟩
  have s6:=s5.trans Yt
  have TL:=ed.len
  rw[TU] at TL
  refine⟨d,t,D,W,st,x,f,ts,rfl,X.same s6,I,sm,XI z.iB (by omega),IY,gx.xb,gf.xb,Lp,by omega,fun h=>absurd AB h,fun _ h=>absurd ⟨gx,gf⟩ h,fun _ _ _ h=>absurd h hx,fun _ _ _ _ h=>absurd hq h,fun _ _ _ _ _ h=>absurd h ed.ne,fun _ _ _ _ _ _ H' X' s'=>?_⟩
  refine q H' _ X' (fun b o e n=>s' b o (s6 _ _ e) n) (I.record AB hx hq ts) (z.keep st (Io ed) (XI vU.2 (by omega))) rfl (.inr (uD D st _))
 ·have hq:D.pO st f≠[]:=fun e=>h (by rw[←Lh,e];rfl)
  have hrpos:0<(D.row st f).length:=by
   rcases Nat.eq_zero_or_pos (D.row st f).length with e|e
   ·exfalso
    apply hq
    show jH _ (D.row st f)=[]
    rw[aaG.mp e]
    rfl
   ·exact e
  have b3:=mod_lt (c/66) ((D.row st f).length:Int) (by omega)
  refine⟨_,rfl,d,π.dx,_,rfl,s5 _ _ y.hd,Ky,_,rfl,_,rfl,_,rfl,_,rfl,_,rfl,UK,_,rfl,.inl (gH.of UO),_,_,rfl,rfl,(by rw[el,Lq];omega),L2.jA,fun t ht=>?_⟩
  have s6:=s5.new (o:=.lst [V.int (c/66%((gp ((D.row st f).map (·.tx))).length:Int))]) ht
  refine⟨d,t,D,W,st,x,f,[c/66%((gp ((D.row st f).map (·.tx))).length:Int)],rfl,X.same s6,I,sm,IY,gx.xb,gf.xb,b_,by show 1≤1000;decide,fun p hp=>?_,fun h=>absurd AB h,fun _ h=>absurd ⟨gx,gf⟩ h,fun _ _ _ h=>absurd h hx,fun _ _ _ _ h=>absurd ?_ h,(fun _ _ _ _ h=>by cases h),fun _ _ _ _ ok _ H' X' s'=>?_⟩
  ·rw[WG.mp hp,el,Lq]
   refine abk (m:=108) ?_ (by decide)
   exact XI (Nat.log2_le_self _) (by omega)
  ·rw[el,Lq]
   exact⟨⟨b3.1,b3.2⟩,trivial⟩
  ·refine q H' _ X' (fun b o e n=>s' b o (s6 _ _ e) n) (I.cut AB hx fun m hm=>?_) (z.keep st (aaz _) (XI (ab0 _ _) (by show 1≤_;omega))) rfl (.inr (uD D st _))
   obtain⟨pl,_,qi⟩:=abI.mp hm
   obtain⟨l',IK,rfl⟩:=Option.map_eq_some_iff.mp qi
   exact XE (WI IK)
theorem nK{K:Qqy}{H H':Hp}{a:Addr}{xs:List V}(h:gH K H a xs)(s:gj H H'):gH K H' a xs:=by
 rcases h with(h|⟨u,h⟩)|h
 ·exact .inl (.inl (s _ _ h))
 ·exact .inl (.inr ⟨u,s _ _ h⟩)
 ·exact .inr h
noncomputable abbrev AY(ns:List Int)(i:Int):Int:=cellAt ns i%20736
noncomputable def uh(ns:List Int):List Str:=[nameOf (AY ns 0) 0,nameOf (AY ns 0) 1,nameOf (AY ns 0) 2]
noncomputable def wA(ns:List Int):List Str:=[nameOf (AY ns 1) 0,nameOf (AY ns 1) 1]
theorem Ip(ns:List Int):(uh ns).Nodup:=by
 have h:∀i j:Int,0≤i→i<36→0≤j→j<36→i≠j→nameOf (AY ns 0) i≠nameOf (AY ns 0) j:=fun i j a b c d e z=>e (Ap a b c d z)
 unfold uh
 simp only [aa0,Z8,ach,or_false,not_or,abp,and_true]
 exact⟨⟨h 0 1 (by decide) (by decide) (by decide) (by decide) (by decide),h 0 2 (by decide) (by decide) (by decide) (by decide) (by decide)⟩,h 1 2 (by decide) (by decide) (by decide) (by decide) (by decide),by simp⟩
theorem vW{ns:List Int}:∀s∈uh ns,Good s:=by
 intro s hs
 unfold uh at hs
 simp only [Z8,ach,or_false] at hs
 rcases hs with rfl|rfl|rfl<;>exact nM _ _
theorem E8{ns:List Int}:∀s∈wA ns,Good s:=by
 intro s hs
 unfold wA at hs
 simp only [Z8,ach,or_false] at hs
 rcases hs with rfl|rfl<;>exact nM _ _
structure Built(A:Ad)(ns:List Int)(n:Nat)(H H':Hp)(b d ss fs:Addr)(D:Dk)(W:Addr→Prop):Prop where
 same:gj H H'
 fresh:H b=none
 at_:H' b=some (.lst [.ref d,.ref ss,.ref fs])
 st:H' ss=some (.lst (gp (uh ns)))
 fl:H' fs=some (.lst (gp (wA ns)))
 WY:iq A H' d D W
 own:∀x,W x→H x=none
 inv:Inv D
 sz:Sz n D
 stores:D.stores=uh ns
 names:∀x∈D.names,∃j:Nat,j<n∧x=nameOf (AY ns 3) j
def Qe(K:PySem.W.Frag)(A:Ad):Sp:=fun vs H Q _=>∃(a:Addr)(ns:List Int)(first:Int)(n:Nat)(bk:Bool),vs=[.ref a,.int first,.int n,.bl bk]∧gH K H a (ns.map V.int)∧ns.length≤1000∧0≤first∧first≤1000∧n≤35∧∀b d ss fs D W H',Built A ns n H H' b d ss fs D W→Q (.ref b) H'
theorem M0(T:Txt mg)(O:Ok K mg A):ij P w K mg base mr 8 A.yf A.yg ["script","first","most","backs"] (Qe K A):=by
 have yI:=@C9 P w K mg base A T O
 have Ds:=(@KC P w K mg base A T O).FJ
 have mJ:=@G_ P w K mg base A T O
 have iQ:=@G9 P w K mg base A T O
 have Fi:=@MW P w K mg base A T O
 have Fj:=@MZ P w K mg base A T O
 refine O.BV.f.qr jb fun jl A0 outer s H vs Q E hr h=>?_
 obtain⟨a,ns,first,n,bk,rfl,ha,QI,RF,VQ,hn,q⟩:=h
 have sz:sizeLine=16777216:=aaw
 refine⟨_,(de (kW 4 jb (Jm O.PB yI (hr.mono (by decide)) rfl O.PD O.ub.b .nil nU))
   (de (Ek (j:=5) si (f_ mF).names [8] jb.nd rfl rfl rfl (jh rfl T.jj (a_ gc d_)) rfl (by decide+kernel) (fun _ _ _ _=>(iw (i:=8) jb.nd rfl (Or.inl rfl))) (fun _ _ _ _=>nV) (fun _ _ _ _=>AX (o_ O.p_ mJ hr (a_ (gr iN (o_ O.jc iQ hr (a_ (pv 0) (a_ gc d_))) gc) (a_ (pv 8) d_)))))
   (de (Ek (j:=6) si (f_ mF).names [8] jb.nd rfl rfl rfl (jh rfl T.jj (a_ gc d_)) rfl (by decide+kernel) (fun _ _ _ _=>(iw (i:=8) jb.nd rfl (Or.inl rfl))) (fun _ _ _ _=>nV) (fun _ _ _ _=>AX (o_ O.p_ mJ hr (a_ (gr iN (o_ O.jc iQ hr (a_ (pv 0) (a_ gc d_))) gc) (a_ (pv 8) d_)))))
   (de (il aam rfl (ir (pv 5)) (qY 7 jb) (fR (hX (uZ (pv 4) O.gF O.zZ Ds hr (a_ (pv 7) d_)))))
   (de (il aam rfl (jh rfl T.jj (a_ (pv 2) d_)) (qY 8 jb) (de (kW 9 jb (o_ O.jc iQ hr (a_ (pv 0) (a_ (gr iC (pv 1) (pv 8)) d_))))
   (de (qo (ik (ib Ji (gr iC (pv 1) (pv 8)) (gs gk (by rfl) T.iW aah (a_ (pv 0) d_)) (ip _)) (fR (kW 9 jb (o_ O.BR Fi hr (a_ (o_ O.jc iQ hr (a_ (pv 0) (a_ gc d_))) (a_ (pv 8) (a_ gc d_)))))) g_))
   (fR (hX (o_ O.BU Fj hr (a_ (pv 4) (a_ (pv 5) (a_ (pv 6) (a_ (pv 9) (a_ (o_ O.p_ mJ hr (a_ (gr iN (o_ O.jc iQ hr (a_ (pv 0) (a_ gc d_))) gc) (a_ (pv 8) d_))) (a_ (pv 3) d_))))))))))))
   (fR (hE (iO (a_ (pv 4) (a_ (pv 5) (a_ (pv 6) d_))))))))))),?_⟩
 refine So ?_;intro _ _ _ _ _
 intro d px nd YD nxd
 refine⟨d,px,rfl,b_,fun H1 W X1 hW k1=>⟨rfl,?_⟩⟩
 have s0:gj H (upd (upd H px (.own d)) d (.ins A.gm px [])):=fun b o e=>by rw[e_ (gh e nd),e_ (gh e YD)];exact e
 have s1:gj H H1:=fun b o e=>k1 b o (s0 b o e) (gh e nd)
 have hW0:∀b,W b→H b=none:=fun b hb=>s0.free (hW b hb)
 refine⟨_,rfl,by decide,by decide,?_⟩
 let Jv:=fun(m:Nat) (ys:List V) (σ:St) (H2:Hp)=>∃(v8:Option V),σ=[rr a,ri first,ri n,some (.bl bk),rr d,none,none,none,v8,none]∧H2=H1∧ys=gp ((List.range m).map fun(j:Nat)=>nameOf (AY ns 0) j)
 refine nX (n:=3) (by decide) Jv ⟨none,rfl,rfl,rfl⟩ (by rintro _ _ _ _ ⟨_,_,_,e⟩;rw[e];simp) ?_ ?_
 ·rintro m ys σ H2 hm ⟨v8,rfl,rfl,rfl⟩
  refine⟨_,rfl,a,ns,0,rfl,nK ha s1,by decide,_,_,rfl,rfl,(by show(0:Int)<20736;decide),_,rfl,_,_,rfl,?_⟩
  refine⟨_,rfl,rfl,?_⟩
  rw[abY,aat,←nZ]
  show _++[V.str (nameOf (AY ns 0) (0+(m:Int)))]=_
  rw[Int.zero_add]
  rfl
 rintro ys σ H2 ⟨v8,rfl,rfl,rfl⟩ ss QS
 have s2:=s1.new (o:=.lst (gp (uh ns))) QS
 have X2:=X1.same ((gj.refl H2).new (o:=.lst (gp (uh ns))) QS)
 have UP:(upd H2 ss (.lst (gp (uh ns)))) ss=some (.lst (gp (uh ns))):=b_
 have UH:gp ((List.range 3).map fun(j:Nat)=>nameOf (AY ns 0) j)=gp (uh ns):=rfl
 rw[UH]
 generalize upd H2 ss (.lst (gp (uh ns)))=H3 at s2 X2 UP
 refine⟨_,rfl,by decide,by decide,?_⟩
 let Jv:=fun(m:Nat) (ys:List V) (σ:St) (H2:Hp)=>∃(v8:Option V),σ=[rr a,ri first,ri n,some (.bl bk),rr d,rr ss,none,none,v8,none]∧H2=H3∧ys=gp ((List.range m).map fun(j:Nat)=>nameOf (AY ns 1) j)
 refine nX (n:=2) (by decide) Jv ⟨none,rfl,rfl,rfl⟩ (by rintro _ _ _ _ ⟨_,_,_,e⟩;rw[e];simp) ?_ ?_
 ·rintro m ys σ H2 hm ⟨v8,rfl,rfl,rfl⟩
  refine⟨_,rfl,a,ns,1,rfl,nK ha s2,by decide,_,_,rfl,rfl,(by show(0:Int)<20736;decide),_,rfl,_,_,rfl,?_⟩
  refine⟨_,rfl,rfl,?_⟩
  rw[abY,aat,←nZ]
  show _++[V.str (nameOf (AY ns 1) (0+(m:Int)))]=_
  rw[Int.zero_add]
  rfl
 rintro ys σ H4 ⟨v8,rfl,rfl,rfl⟩ fs Aw
 have UI:gp ((List.range 2).map fun(j:Nat)=>nameOf (AY ns 1) j)=gp (wA ns):=rfl
 rw[UI]
 have s3:=s2.new (o:=.lst (gp (wA ns))) Aw
 have X3:=X2.same ((gj.refl H4).new (o:=.lst (gp (wA ns))) Aw)
 have QU:=ie (u:=.lst (gp (wA ns))) Aw UP
 have UQ:(upd H4 fs (.lst (gp (wA ns)))) fs=some (.lst (gp (wA ns))):=b_
 generalize upd H4 fs (.lst (gp (wA ns)))=H5 at s3 X3 QU UQ
 dsimp only [mB];refine JM ?_;intro _
 let Jv:=fun(i:Nat) (σ:St) (H6:Hp)=>∃(v7:Option V)(D:Dk)(W:Addr→Prop),σ=[rr a,ri first,ri n,some (.bl bk),rr d,rr ss,rr fs,v7,none,none]∧gj H H6∧H6 ss=some (.lst (gp (uh ns)))∧H6 fs=some (.lst (gp (wA ns)))∧iq A H6 d D W∧(∀b,W b→H b=none)∧Inv D∧D.made=[]∧D.stores=(uh ns).take i
 refine⟨_,rfl,ss,rfl,⟨_,gH.of QU⟩,iM (K:=K) (a:=ss) (xs:=gp (uh ns)) Jv
  ⟨none,Vc,W,rfl,s3,QU,UQ,X3,hW0,WX,rfl,rfl⟩ (by rintro _ _ _ _ ⟨_,_,_,_,_,e,_⟩;exact gH.of e) ?_ ?_⟩
 ·rintro i v σ H6 hx ⟨v7,D,W,rfl,s6,h1,h2,X6,UR,I6,RG,QV⟩
  obtain⟨st,rE,rfl⟩:=mv hx
  have g:=vW st (WI rE)
  have N8:i<3:=(List.getElem?_eq_some_iff.mp rE).1
  have Nr:st∉D.stores:=fun hm=>by
   rw[QV] at hm
   obtain⟨j,hj⟩:=aaC.mp hm
   have IJ:j<i:=by have:=(List.getElem?_eq_some_iff.mp hj).1;rw[aay] at this;omega
   rw[aa7,aar IJ] at hj
   have:=(abQ (List.getElem?_eq_some_iff.mp hj).1 (Ip ns)).mp (hj.trans rE.symm)
   omega
  obtain⟨π,y⟩:=id X6
  refine⟨_,rfl,d,π.dx,_,rfl,y.hd,Kx,_,rfl,d,D,W,st,rfl,X6,g.xb,?_,fun h=>absurd g h,fun _ h=>absurd h Nr,fun _ _ H7 W7 X7 s7 hW7=>?_⟩
  ·rw[QV,aay];omega
  ·refine⟨_,D.begin st,W7,rfl,fun b o e=>?_,s7 _ _ h1 (X6.lst h1),s7 _ _ h2 (X6.lst h2),X7,fun b hb=>?_,I6.begin Nr,RG,?_⟩
   ·exact s7 b o (s6 _ _ e) (fun hb=>by rw[UR b hb] at e;cases e)
   ·rcases hW7 b hb with h|h
    ·exact UR b h
    ·exact s6.free h
   ·show D.stores++[st]=_
    rw[QV,take_snoc rE]
 rintro σ H6 ⟨v7,D0,W,rfl,s6,h1,h2,X6,UR,I6,RG,QV⟩
 have QV:D0.stores=uh ns:=by rw[QV,TU];exact aaq
 refine⟨_,rfl,_,rfl,by omega,by omega,?_⟩
 rw[aa2]
 let Jv:=fun(i:Nat) (σ:St) (H7:Hp)=>∃(v8 v9:Option V)(D:Dk),σ=[rr a,ri first,ri n,some (.bl bk),rr d,rr ss,rr fs,v7,v8,v9]∧gj H H7∧H7 ss=some (.lst (gp (uh ns)))∧H7 fs=some (.lst (gp (wA ns)))∧iq A H7 d D W∧Inv D∧Sz i D∧D.stores=uh ns∧∀x∈D.names,∃j:Nat,j<i∧x=nameOf (AY ns 3) j
 refine jB Jv
  ⟨none,none,D0,rfl,s6,h1,h2,X6,I6,⟨by rw[RG];exact WL _,by rw[RG];exact WL _,by rw[RG];exact WL _⟩,QV,fun x hx=>by unfold Dk.names at hx;rw[RG] at hx;cases hx⟩ ?_ ?_
 ·rintro i σ H7 hi ⟨v8,v9,D,rfl,s7,k1,k2,X7,I7,z7,VU,Oo⟩
  rw[show(0:Int)+(i:Int)=(i:Int) by omega]
  refine⟨_,rfl,_,rfl,_,rfl,_,_,rfl,rfl,a,ns,_,rfl,nK ha s7,by omega,?_⟩
  refine⟨fun σ H8=>∃c:Int,σ=[rr a,ri first,ri n,some (.bl bk),rr d,rr ss,rr fs,v7,ri i,ri c]∧H8=H7,?_,?_⟩
  ·refine⟨_,rfl,_,rfl,_,_,rfl,rfl,_,rfl,a,_,rfl,.inl (nK ha s7),_,_,rfl,rfl,_,rfl,?_⟩
   refine kF (fun _=>?_) (fun _=>⟨_,rfl,rfl⟩)
   refine⟨_,rfl,a,ns,2,rfl,nK ha s7,by decide,_,rfl,_,_,_,rfl,by decide,by omega,by omega,fun x _ _=>⟨x,rfl,rfl⟩⟩
  rintro σ H8 ⟨c,rfl,rfl⟩
  refine⟨_,rfl,_,rfl,_,rfl,_,rfl,_,rfl,a,ns,3,rfl,nK ha s7,by decide,_,_,rfl,rfl,(by show(0:Int)<20736;decide),_,rfl,_,_,rfl,_,rfl,?_⟩
  have gx:=nM (AY ns 3) (i:Int)
  refine⟨d,ss,fs,D,W,i,uh ns,wA ns,c,_,bk,rfl,X7,I7,z7,by omega,k1,(by unfold uh;simp),(by show 3≤1000;decide),fun t ht=>⟨by rw[VU];exact ht,(vW t ht).xb⟩,k2,(by unfold wA;simp),(by show 2≤1000;decide),E8,gx,fun hm=>?_,fun t ht=>?_,fun H9 D' X9 s9 I9 z9 hs9 hn9=>?_⟩
  ·obtain⟨j,hj,e⟩:=Oo _ hm
   have:=Ap (by omega) (by omega) (by omega) (by omega) e
   omega
  ·obtain⟨j,hj,e⟩:=Oo _ ht
   rw[e];exact(nM _ _).xb
  ·refine⟨_,_,D',rfl,fun b o e=>s9 b o (s7 _ _ e) (fun hb=>by rw[UR b hb] at e;cases e),s9 _ _ k1 (X7.lst k1),s9 _ _ k2 (X7.lst k2),X9,I9,z9,hs9.trans VU,fun t ht=>?_⟩
   rcases hn9 with e|e
   ·rw[e] at ht
    obtain⟨j,hj,e⟩:=Oo _ ht
    exact⟨j,by omega,e⟩
   ·rw[e] at ht
    rcases Z3.mp ht with ht|ht
    ·obtain⟨j,hj,e⟩:=Oo _ ht
     exact⟨j,by omega,e⟩
    ·exact⟨i,by omega,WG.mp ht⟩
 ·rintro σ H7 ⟨v8,v9,D,rfl,s7,k1,k2,X7,I7,z7,VU,Oo⟩
  refine⟨_,rfl,_,rfl,_,rfl,L2.jA,fun b hb=>?_⟩
  have s8:=s7.new (o:=.lst [.ref d,.ref ss,.ref fs]) hb
  exact q b d ss fs D W _ ⟨s8,s7.free hb,b_,ie hb k1,ie hb k2,X7.same ((gj.refl H7).new hb),UR,I7,z7,VU,Oo⟩
end
inductive Dv where
 | o
 | s (x:Str)
 | i (n:Int)
 | l (xs:List Dv)
 | t (xs:List Dv)
inductive Rep(H:Hp):Nat→V→Dv→Prop
 | o {n}:Rep H n .jm .o
 | s {n x}:Rep H n (.str x) (.s x)
 | i {n x}:Rep H n (.int x) (.i x)
 | l {n a vs xs} (h:H a=some (.lst vs)) (hl:vs.length=xs.length) (hr:∀(j:Nat) u d,vs[j]?=some u→xs[j]?=some d→Rep H n u d):Rep H (n+1) (.ref a) (.l xs)
 | t {n a vs xs} (h:H a=some (.tup vs)) (hl:vs.length=xs.length) (hr:∀(j:Nat) u d,vs[j]?=some u→xs[j]?=some d→Rep H n u d):Rep H (n+1) (.ref a) (.t xs)
theorem Rep.up{H:Hp}{n:Nat}{v:V}{d:Dv}(r:Rep H n v d):Rep H (n+1) v d:=by
 induction r with
 | o=>exact .o
 | s=>exact .s
 | i=>exact .i
 | l h hl _ ih=>exact .l h hl ih
 | t h hl _ ih=>exact .t h hl ih
theorem Rep.mono{H:Hp}{n m:Nat}{v:V}{d:Dv}(r:Rep H n v d)(h:n≤m):Rep H m v d:=by
 obtain⟨k,rfl⟩:=Nat.exists_eq_add_of_le h
 induction k with
 | zero=>exact r
 | succ k ih=>exact(ih (by omega)).up
theorem all_true(n:Nat):((List.range n).all fun _=>true)=true:=by rw[abL];intro x _;rfl
theorem Rep.eq{K:Qqy}{H:Hp}{n:Nat}{u v:V}{d:Dv}(r1:Rep H n u d):Rep H n v d→pC K H n u v true:=by
 induction r1 generalizing v with
 | @o n=>
  intro r2
  cases r2
  exact pC.flat (K:=K) (H:=H) (n:=n) (x:=V.jm) (y:=V.jm) rfl rfl
 | @s n x=>
  intro r2
  cases r2
  have:=pC.JE (K:=K) (H:=H) (n:=n) x x
  rw[WM rfl] at this
  exact this
 | @i n x=>
  intro r2
  cases r2
  have:=pC.O_ (K:=K) (H:=H) (n:=n) x x
  rw[WM rfl] at this
  exact this
 | @l n a vs xs h hl hr ih=>
  intro r2
  cases r2 with
  | @l _ c ws _ h' IK YT=>
   have:=pC.lists (K:=K) (H:=H) (n:=n) (e:=fun _=>true) (gH.of h) (gH.of h') (hl.trans IK.symm) fun j u v hu hv=>by
    have hj:j<xs.length:=by rw[←hl];exact(List.getElem?_eq_some_iff.mp hu).1
    exact ih j u _ hu (TZ hj) (YT j v _ hv (TZ hj))
   rw[all_true] at this
   exact this
 | @t n a vs xs h hl hr ih=>
  intro r2
  cases r2 with
  | @t _ c ws _ h' IK YT=>
   have:=pC.rD (K:=K) (H:=H) (n:=n) (e:=fun _=>true) (rG.of h) (rG.of h') fun j u v hu hv=>by
    have hj:j<xs.length:=by rw[←hl];exact(List.getElem?_eq_some_iff.mp hu).1
    exact ih j u _ hu (TZ hj) (YT j v _ hv (TZ hj))
   rw[all_true,hl,IK,beq_self_eq_true,Bool.and_true] at this
   exact this
theorem Rep.Iq{H:Hp}{n:Nat}{a:Addr}{β:Type}{F:V→β→Prop}{g:β→Dv}{vs:List V}{xs:List β}(h:H a=some (.lst vs))(p:Paired F vs xs)(hF:∀v x,F v x→Rep H n v (g x)):Rep H (n+1) (.ref a) (.l (xs.map g)):=by
 refine .l h (by rw[TU];exact aaj p) fun j u d hu hd=>?_
 obtain⟨x,hx,f⟩:=iz p hu
 rw[Z4,hx] at hd
 cases hd
 exact hF u x f
noncomputable def S7(row:List Ln):Dv:=.l (row.map fun l=>.t [.s l.nm.1,.i l.nm.2,.s l.tx])
noncomputable def quD(qs:List (Nat×Nat)):Dv:=.l (qs.map fun q=>.t [.i q.1,.i q.2])
theorem sU.rep{H:Hp}{a:Addr}{row:List Ln}(x:sU H a row):Rep H 2 (.ref a) (S7 row):=by
 obtain⟨vs,h,p⟩:=x
 refine Rep.Iq h p fun v l ⟨t,e,ht⟩=>?_
 subst e
 refine .t ht rfl fun j u d hu hd=>?_
 match j with
 | 0=>cases hu;cases hd;exact .s
 | 1=>cases hu;cases hd;exact .i
 | 2=>cases hu;cases hd;exact .s
 | j+3=>simp at hu
theorem Ir{H:Hp}{a:Addr}{vs:List V}{qs:List (Nat×Nat)}(h:H a=some (.lst vs))(x:iV H qs vs):Rep H 2 (.ref a) (quD qs):=by
 refine .l h (by rw[TU];exact(aaj x).symm) fun j u d hu hd=>?_
 obtain⟨q,hq,b,e,hb⟩:=j6 x hu
 subst e
 rw[Z4,hq] at hd
 cases hd
 refine .t hb rfl fun j u d hu hd=>?_
 match j with
 | 0=>cases hu;cases hd;exact .i
 | 1=>cases hu;cases hd;exact .i
 | j+2=>simp at hu
end PK
namespace L2
open PySem PySem.Spec PyProof.Rows
theorem Iu(a d:Value):argsOk "max" ⟨[a],[(Str.ofString "default",d)]⟩:=by unfold argsOk;kernel_rfl
section
variable{prog:Program}{w:World}{A:Around}{R:Result→Shared→Prop}{I:Addr}{fp wr:List Addr}{n:Nat}{P:Nat→Value→Prop}{St:Nat→Heap→Prop}{d:Value}
theorem Iv(W:Walks prog w A.in1 I fp wr n P St)(bt:Nat→Nat→Bool)(QW:CmpOf prog w A.in1 .Gt P bt)(S:Addr)(RH:S∉fp) :
  ∀(k j:Nat)(s:Shared)(vb:Value)(c:Nat),n-(j+1)=k→j+1≤n→St (j+1) s.heap→P (argBest bt j) vb→
  s.heap.get? S=some {cls:=.type "list",dict:=none,data:=.seq #[vb,vb] c,slots:=#[]}→
  (∀v h' tk,P (argBest bt (n-1)) v→(∀b o,b∉wr→b≠S→s.heap.get? b=some o→h'.get? b=some o)→R (.ok (.ret v)) {s with heap:=h',toks:=tk})→
  codeAny (model prog w) A (.builtin "max.loop" ⟨[.ref I,.none,.ref S],[(Str.ofString "default",d)]⟩) R s:=by
 have VV:S∉wr:=fun h=>RH (W.sub _ h)
 have B9:(toString "max"++toString ".loop":String)="max.loop":=by decide
 intro k
 induction k with
 | zero=>
  intro j s vb c hk hj rE VW hS hR
  have K8:j+1=n:=by omega
  refine codeAny_builtin PySem.F.entry_max_loop ?_
  rw[Around.under_plainId abn _]
  show wpAny _ A.in1 (seqItems? (.ref S) >>= _) _ _ s
  refine T1 (wpAny_seqItems hS rfl ?_)
  show wpAny _ A.in1 (tryCatch (pyNext (.ref I)) _ >>= _) _ _ s
  refine T1 (wpAny_tryCatch (W.done s _ _ (K8▸rE) fun h' tk Lr=>?_))
  have LJ:=Lr S _ VV hS
  show wpAny _ A.in1 (updateSeq S (fun _=>#[]) >>= _) _ _ _
  refine T1 ?_
  refine acd LJ rfl (T1 (wpAny_letGo (aag ?_)))
  exact hR vb _ tk (by rw[←K8];exact VW) fun b o DS LQ e=>(aa1 _ _ (abK LQ)).trans (Lr b o DS e)
 | succ k ih=>
  intro j s vb c hk hj rE VW hS hR
  have jQ:j+1<n:=by omega
  refine codeAny_builtin PySem.F.entry_max_loop ?_
  rw[Around.under_plainId abn _]
  show wpAny _ A.in1 (seqItems? (.ref S) >>= _) _ _ s
  refine T1 (wpAny_seqItems hS rfl ?_)
  show wpAny _ A.in1 (tryCatch (pyNext (.ref I)) _ >>= _) _ _ s
  refine T1 (wpAny_tryCatch (W.item (j+1) s _ _ jQ rE fun v h' tk hP Nv Lr=>?_))
  have LJ:=Lr S _ VV hS
  show wpAny _ A.in1 (tryCatch (holding [v,v] (richCompare .Gt v vb >>= _)) _ >>= _) _ _ _
  refine T1 (wpAny_tryCatch (abD (T1 (QW (j+1) (argBest bt j) v vb _ _ _ hP VW ?_))))
  refine T1 (abD (abv ?_))
  refine T1 (wpAny_letGo (aag ?_))
  cases hb:bt (j+1) (argBest bt j) with
  | true=>
   simp only [if_true]
   refine T1 ?_
   refine acd LJ rfl (T1 (wpAny_letGo ?_))
   rw[B9]
   refine aag ⟨plainId_quiet abn _,ih (j+1) _ v _ (by omega) jQ (W.frame _ _ _ Nv fun b YU o e=>?_) (by simp only [argBest,hb,if_true];exact hP) (aa4 _ LJ rfl)
    fun v' IH Ls US Lu=>?_⟩
   ·exact(aa1 _ _ (fun h:S=b=>RH (by rw[h];exact YU))).trans e
   ·exact hR v' IH Ls US fun b o DS LQ e=>Lu b o DS LQ ((aa1 _ _ (abK LQ)).trans (Lr b o DS e))
  | false=>
   simp only [aaV,abS]
   refine T1 (wpAny_letGo ?_)
   rw[B9]
   refine aag ⟨plainId_quiet abn _,ih (j+1) _ vb c (by omega) jQ Nv (by simp only [argBest,hb,aaV,abS];exact VW) LJ fun v' IH Ls US Lu=>?_⟩
   exact hR v' IH Ls US fun b o DS LQ e=>Lu b o DS LQ (Lr b o DS e)
theorem Gm(W:Walks prog w A.in1 I fp wr n P St)(bt:Nat→Nat→Bool)(QW:CmpOf prog w A.in1 .Gt P bt)(S:Addr)(RH:S∉fp){s:Shared}{c:Nat}(rE:St 0 s.heap)
  (hS:s.heap.get? S=some {cls:=.type "list",dict:=none,data:=.seq #[] c,slots:=#[]})
  (hR:∀v h' tk,(n=0→v=d)→(0<n→P (argBest bt (n-1)) v)→(∀b o,b∉wr→b≠S→s.heap.get? b=some o→h'.get? b=some o)→R (.ok (.ret v)) {s with heap:=h',toks:=tk}) :
  codeAny (model prog w) A (.builtin "max.loop" ⟨[.ref I,.none,.ref S],[(Str.ofString "default",d)]⟩) R s:=by
 have VV:S∉wr:=fun h=>RH (W.sub _ h)
 have B9:(toString "max"++toString ".loop":String)="max.loop":=by decide
 refine codeAny_builtin PySem.F.entry_max_loop ?_
 rw[Around.under_plainId abn _]
 show wpAny _ A.in1 (seqItems? (.ref S) >>= _) _ _ s
 refine T1 (wpAny_seqItems hS rfl ?_)
 show wpAny _ A.in1 (tryCatch (pyNext (.ref I)) _ >>= _) _ _ s
 by_cases hn:0<n
 ·refine T1 (wpAny_tryCatch (W.item 0 s _ _ hn rE fun v h' tk hP Nv Lr=>?_))
  have LJ:=Lr S _ VV hS
  show wpAny _ A.in1 (updateSeq S (fun _=>#[v,v]) >>= _) _ _ _
  refine T1 ?_
  refine acd LJ rfl ?_
  rw[B9]
  refine aag ⟨plainId_quiet abn _,Iv W bt QW S RH _ 0 _ v _ rfl hn (W.frame _ _ _ Nv fun b YU o e=>?_) hP (aa4 _ LJ rfl) fun v' IH Ls US Lu=>?_⟩
  ·exact(aa1 _ _ (fun h:S=b=>RH (by rw[h];exact YU))).trans e
  ·exact hR v' IH Ls (fun h=>by omega) (fun _=>US) fun b o DS LQ e=>Lu b o DS LQ ((aa1 _ _ (abK LQ)).trans (Lr b o DS e))
 ·have e0:n=0:=by omega
  subst e0
  refine T1 (wpAny_tryCatch (W.done s _ _ rE fun h' tk Lr=>?_))
  show wpAny _ A.in1 (rule _ >>= _) _ _ _
  refine T1 (wpAny_rule (aag ?_))
  exact hR d _ tk (fun _=>rfl) (fun h=>absurd h hn) fun b o DS LQ e=>Lr b o DS e
end
section
variable{prog:Program}{w:World}{A:Around}{E:Qqq}{s:Shared}
theorem Iw{l:Addr}{items:Array Value}{d:Value}{Q:Qqq}(hh:A.handled=none)(hl:s.heap.IsList l items)(val:Nat→Int)(vZ:∀i v,items[i]?=some v→∃t,v=Value.int (val i) t)
  (h:∀v h' tk,(items.size=0→v=d)→(0<items.size→items[argBest (fun i j=>decide (val i>val j)) (items.size-1)]?=some v)→(∀b o,s.heap.get? b=some o→h'.get? b=some o)→Q v {s with heap:=h',toks:=tk}) :
  wpAny (model prog w) A (call (.builtin "max") [.ref l] [(Str.ofString "default",d)]) Q E s:=by
 have B9:(toString "max"++toString ".loop":String)="max.loop":=by decide
 have jQ:l<s.heap.objs.size:=by obtain⟨_,e,_⟩:=hl;exact aau e
 refine kmk_tree PySem.F.kind_max PySem.F.plain_max PySem.F.entry_max (Iu _ _) ?_
 show wpAny _ A.in1 (Builtin.Builtins.bindParams "max" ["key","default"] 0 ⟨[],[(Str.ofString "default",d)]⟩ >>= _) _ _ s
 refine T1 (wpAny_of_eq (show Builtin.Builtins.bindParams "max" ["key","default"] 0 ⟨[],[(Str.ofString "default",d)]⟩=pure [none,some d] from rfl) ?_)
 refine T1 (aag ?_)
 refine T1 (wpAny_pyIter_list hl ?_)
 refine T1 (wpAny_newList ?_ (aaz _))
 rw[B9]
 have hS:(s.heap.push {cls:=.type "list_iterator",data:=.fields #[.ref l,.int 0 0]}).objs.size=s.heap.objs.size+1:=size_push' ..
 have hlI:l≠s.heap.objs.size:=aaU jQ
 refine aag ⟨plainId_quiet abn _,Gm (Walks.list (A:=A.in1) hh s.heap.objs.size l hlI items) (fun i j=>decide (val i>val j)) (CmpOf.ints_gt val vZ) (s.heap.push {cls:=.type "list_iterator",data:=.fields #[.ref l,.int 0 0]}).objs.size ?_ ⟨⟨_,aab _ (aav _ rfl),rfl,rfl⟩,(hl.push _).push _⟩ (aav _ rfl) fun v h' tk h1 h2 hk=>?_⟩
 ·rw[hS]
  intro hm
  rcases Z8.mp hm with e|hm
  ·exact absurd e (Nat.succ_ne_self _)
  ·rw[←WG.mp hm] at jQ
   exact absurd jQ (Nat.not_lt.mpr (Nat.le_succ _))
 ·refine h v h' tk h1 h2 fun b o e=>hk b o (fun hm=>?_) (fun hb=>?_) (aab _ (aab _ e))
  ·have:=aau e
   rw[WG.mp hm] at this
   exact abg _ this
  ·have:=aau e
   rw[hb,hS] at this
   exact absurd this (Nat.not_lt.mpr (Nat.le_succ _))
end
def NS(d:Int)(ns:List Int)(m:Int):Prop:=(ns=[]→m=d)∧(ns≠[]→m∈ns∧∀x∈ns,x≤m)
theorem yn(val:Nat→Int):∀n,argBest (fun i j=>decide (val i>val j)) n≤n∧∀j≤n,val j≤val (argBest (fun i j=>decide (val i>val j)) n)
 | 0=>⟨WL _,fun j hj=>by
     have:j=0:=by omega
     rw[this];exact Int.le_refl _⟩
 | n+1=>by
  obtain⟨h1,h2⟩:=yn val n
  simp only [argBest]
  split
  ·rename_i h
   have h:=aak h
   refine⟨WL _,fun j hj=>?_⟩
   by_cases e:j=n+1
   ·rw[e];exact Int.le_refl _
   ·have:=h2 j (by omega)
    omega
  ·rename_i h
   have h:¬val (n+1)>val _:=fun z=>h (WM z)
   refine⟨by omega,fun j hj=>?_⟩
   by_cases e:j=n+1
   ·rw[e];omega
   ·exact h2 j (by omega)
section
variable{X:Cx}
def S8(K:Qqy)(ta:TA)(d:Int):TE:=fun σ H Q=>ta σ H fun vs H1=>∃l ns,vs=[.ref l]∧gH K H1 l (ns.map V.int)∧∀m,NS d ns m→Q (.int m) H1
theorem Di{a:Expr}{ta:TA}{p1 pos kp cp:Pos}{i:Int}{j:Nat}(hc:X.calm=true)(hg:Gl X "max")(hm:X.mg "max"=none)(ha:PA X [a] ta)(hs:starEach [a] X.env=[(false,eval a X.env)]:=by rfl) :
  PE X (.Call (.Name "max" p1) [a] [⟨some (Str.ofString "default"),.Constant (.int i) j cp,kp⟩] pos) (S8 X.K ta i):=by
 intro c_ s σ H Q I h
 have hh:=I.ok.hd hc
 show wpAny _ _ (eval (.Call (.Name "max" p1) [a] [⟨some (Str.ofString "default"),.Constant (.int i) j cp,kp⟩] pos) X.env) _ _ _
 rw[show eval (.Call (.Name "max" p1) [a] [⟨some (Str.ofString "default"),.Constant (.int i) j cp,kp⟩] pos) X.env=(do callWith pos (←eval (.Name "max" p1) X.env) [] (backTo pos (starEach [a] X.env)) (backToKw pos (keywordEach [⟨some (Str.ofString "default"),.Constant (.int i) j cp,kp⟩] X.env))) from rfl]
 refine T1 (nN I hg hm boot_max (callWith_kw ?_ (by rw[hs];rfl) (by rw[hs];rfl) rfl rfl))
 refine i6 (ha pos c_ s σ H _ I h) fun us s1 ⟨vs,H1,I1,r1,q1⟩=>?_
 obtain⟨l,ns,rfl,hq,q⟩:=q1
 obtain⟨u,rfl,ru⟩:=vals1 r1
 cases (show u=Value.ref l from ru)
 refine kws_cons (wpAny_Constant_int (kws_nil ?_))
 have I2:=I1.tok (s1.toks+1)
 obtain⟨h_,rv,pp,hz⟩:=I1.list hq
 have hlen:=rv.length
 rw[TU] at hlen
 have vZ:∀(k:Nat) v,h_.toArray[k]?=some v→∃t,v=Value.int (ns.getD k 0) t:=fun k v hv=>by
  have hv:h_[k]?=some v:=by simpa using hv
  have hk:k<h_.length:=(List.getElem?_eq_some_iff.mp hv).1
  obtain⟨u',DU,Xp⟩:=rv.get (i:=k) (x:=V.int (ns.getD k 0)) (by rw[Z4,TZ (by omega)];simp[List.getD,TZ (show k<ns.length by omega)])
  rw[hv] at DU
  cases DU
  exact Xp
 refine Iw (s:={s1 with toks:=s1.toks+1}) hh pp.isList (fun k=>ns.getD k 0) vZ fun v h' tk h1 h2 hk=>?_
 have hsz:h_.toArray.size=ns.length:=by simp;omega
 rw[hsz] at h1 h2
 by_cases hn:ns=[]
 ·subst hn
  rw[h1 rfl]
  exact⟨.int i,H1,I1.kept hk,⟨_,rfl⟩,q i ⟨fun _=>rfl,fun z=>absurd rfl z⟩⟩
 ·have UM:0<ns.length:=List.length_pos_iff.mpr hn
  have e:=h2 UM
  obtain⟨t,rfl⟩:=vZ _ _ e
  obtain⟨b1,b2⟩:=yn (fun k=>ns.getD k 0) (ns.length-1)
  have gd:∀k,k<ns.length→ns.getD k 0∈ns:=fun k hk=>by simp[List.getD,TZ hk]
  refine⟨.int _,H1,I1.kept hk,⟨_,rfl⟩,q _ ⟨fun z=>absurd z hn,fun _=>⟨gd _ (by omega),fun x hx=>?_⟩⟩⟩
  obtain⟨k,hk,rfl⟩:=List.mem_iff_getElem.mp hx
  have:=b2 k (by omega)
  have e2:ns.getD k 0=ns[k]:=by simp[List.getD,TZ hk]
  rw[e2] at this
  exact this
theorem Bj(hc:X.calm=true):tQ X (.type "list") (fun xs H Q=>∃(r:Addr)(j:Nat),xs=[.ref r]∧H r=some (.IZ 0 j)∧j≤4000∧∀l,H l=none→Q (.ref l) (upd H l (.lst ((List.range j).map fun(i:Nat)=>V.int i)))):=by
 intro c_ s σ H xs us Q I r h
 obtain⟨a,j,rfl,hr,hj,q⟩:=h
 obtain⟨u,rfl,ru⟩:=vals1 r
 cases (show u=Value.ref a from ru)
 obtain⟨t,u,v,ho⟩:=(show iY X.prog X.w H s.heap a (.IZ 0 j) from I.iH a _ hr)
 have es:Builtin.Range.rangeSize 0 j 1=(j:Int):=by rw[rangeSize_one];split<;>omega
 have hsm:Builtin.Range.small 0 j 1=true:=small_one (by omega) (by omega) (by omega) (by omega)
 refine call_list_range (I.ok.hd hc) (show IsRange s.heap a 0 j 1 t u v from ho) hsm es (XI hj (by decide)) fun h' tk acc c hk hS vY=>?_
 refine⟨.ref s.heap.objs.size,_,I.laid (t':=tk) hk (WL _) (show iY X.prog X.w _ h' _ (.lst ((List.range j).map fun(i:Nat)=>V.int i)) from ⟨?_,acc.toList,c,?_,by simpa using hS⟩),rfl,q _ (I.iH.fresh (WL _))⟩
 ·rw[TU,aaR]
  exact XI hj (by decide)
 ·have hsz:acc.toList.length=acc.size:=abc
  refine pM (by rw[TU,aaR,hsz,vY.1]) fun i x y hx hy=>?_
  have hi:i<j:=by have:=(List.getElem?_eq_some_iff.mp hx).1;rwa [TU,aaR] at this
  rw[Z4,abu hi] at hx
  cases hx
  obtain⟨t',e⟩:=vY.2 i y (by rw[←aa8];exact hy)
  have e2:(0:Int)+(i:Int)*1=(i:Int):=by omega
  rw[e2] at e
  exact⟨t',e⟩
end
theorem WZ{t0 t1 t2 t3 t4 t5 t6 t7 t8 t9 N2 N3 N4 N5 N6 TH t16 t17 t18:TS}{D:Ends}{σ:St}{H:Hp}(h:let v18:=t18;let v17:=gB t17 v18;let v16:=gB t16 v17;let Xr:=gB TH v16;let La:=gB N6 Xr;let Nf:=gB N5 La;let TF:=gB N4 Nf;let v11:=gB N3 TF;let v10:=gB N2 v11;let v9:=gB t9 v10;let v8:=gB t8 v9;let v7:=gB t7 v8;let v6:=gB t6 v7;let v5:=gB t5 v6;let v4:=gB t4 v5;let v3:=gB t3 v4;let v2:=gB t2 v3;let v1:=gB t1 v2;gB t0 v1 D σ H):gB t0 (gB t1 (gB t2 (gB t3 (gB t4 (gB t5 (gB t6 (gB t7 (gB t8 (gB t9 (gB N2 (gB N3 (gB N4 (gB N5 (gB N6 (gB TH (gB t16 (gB t17 t18))))))))))))))))) D σ H:=h
end L2
namespace PM
open PySem (Str)
section
variable(a:Nat→Nat→Prop)(n:Nat)
def Rf:Prop:=∀i j k,i<j→j<k→k<n→a i j→a j k→a i k
structure Iy(c:Nat→Nat):Prop where
 one:∀i,i<n→1≤c i
 up:∀i j,i<j→j<n→a i j→c j+1≤c i
 is:∀i,i<n→c i=1∨∃j,i<j∧j<n∧a i j∧c i=c j+1
def Cp(prev:Option Nat)(p:Nat):Prop:=∀q,prev=some q→a q p
def Af(prev:Option Nat)(p:Nat):Prop:=∀q,prev=some q→q<p
open Classical in
noncomputable def ni(c:Nat→Nat):Nat→Nat→Option Nat→Nat→List Nat
 | 0,_,_,_=>[]
 | k+1,p,prev,left=>if c p=left∧Cp a prev p then p::ni c k (p+1) (some p) (left-1) else ni c k (p+1) prev left
inductive St(c:Nat→Nat):Option Nat→Nat→List Nat→Prop
 | nil {prev}:St c prev 0 []
 | cons {prev left q r} (h1:Af prev q) (h2:q<n) (h3:Cp a prev q) (h4:c q=left+1) (h5:∀e,Af prev e→e<q→Cp a prev e→c e<left+1) (t:St c (some q) left r):St c prev (left+1) (q::r)
variable{a n}
theorem KN{c:Nat→Nat}(C:Iy a n c):∀(k p:Nat)(prev:Option Nat)(left:Nat),p+k=n→Af prev p→(left=0∨∃q,p≤q∧q<n∧c q=left∧Cp a prev q)→(∀e,p≤e→e<n→Cp a prev e→c e≤left)→(∀e,Af prev e→e<p→Cp a prev e→c e<left)→St a n c prev left (ni a c k p prev left)
 | 0,p,prev,left,hk,hp,h1,h2,h3=>by
  rcases h1 with rfl|⟨q,hq,hn,_⟩
  ·exact .nil
  ·omega
 | k+1,p,prev,left,hk,hp,h1,h2,h3=>by
  unfold ni
  by_cases hc:c p=left∧Cp a prev p
  ·rw[aar hc]
   obtain⟨e,YV⟩:=hc
   have Nk:=C.one p (by omega)
   obtain⟨l,rfl⟩:∃l,left=l+1:=⟨left-1,by omega⟩
   refine .cons hp (by omega) YV e h3 ?_
   refine KN C k (p+1) (some p) l (by omega) (fun q hq=>by cases hq;omega) ?_ (fun e' he hn Oq=>?_) (fun e' he he' _=>?_)
   ·rcases C.is p (by omega) with h|⟨j,hj,hjn,haj,h⟩
    ·exact .inl (by omega)
    ·exact .inr ⟨j,by omega,hjn,by omega,fun q hq=>by cases hq;exact haj⟩
   ·have:=C.up p e' (by omega) hn (Oq p rfl)
    omega
   ·have:=he p rfl
    omega
  ·rw[aap hc]
   refine KN C k (p+1) prev left (by omega) (fun q hq=>Nat.lt_succ_of_lt (hp q hq)) ?_ (fun e he hn Oq=>h2 e (by omega) hn Oq) (fun e he he' Oq=>?_)
   ·rcases h1 with h|⟨q,hq,hn,e,UT⟩
    ·exact .inl h
    ·refine .inr ⟨q,?_,hn,e,UT⟩
     rcases Nat.lt_or_ge p q with z|z
     ·exact z
     ·have:q=p:=by omega
      subst this
      exact absurd ⟨e,UT⟩ hc
   ·by_cases e2:e=p
    ·subst e2
     have:=h2 e (WL _) (by omega) Oq
     have:c e≠left:=fun z=>hc ⟨z,Oq⟩
     omega
    ·exact h3 e he (by omega) Oq
theorem St.len{c:Nat→Nat}{prev:Option Nat}{left:Nat}{l:List Nat}(h:St a n c prev left l):l.length=left:=by
 induction h with
 | nil=>rfl
 | cons _ _ _ _ _ _ ih=>rw[aac,ih]
theorem St.mem{c:Nat→Nat}{prev:Option Nat}{left:Nat}{l:List Nat}(h:St a n c prev left l):∀q∈l,q<n:=by
 induction h with
 | nil=>intro q hq;cases hq
 | cons _ h2 _ _ _ _ ih=>
  intro q hq
  rcases Z8.mp hq with rfl|hq
  ·exact h2
  ·exact ih q hq
def NT(a:Nat→Nat→Prop)(l:List Nat):Prop:=l.Pairwise fun i j=>i<j∧a i j
theorem St.chain{c:Nat→Nat}(t:Rf a n){prev:Option Nat}{left:Nat}{l:List Nat}(h:St a n c prev left l):NT a l∧∀q∈l,Af prev q∧Cp a prev q:=by
 induction h with
 | nil=>exact⟨List.Pairwise.nil,fun q hq=>by cases hq⟩
 | @cons prev left q r h1 h2 h3 _ _ hr ih=>
  refine⟨List.Pairwise.cons (fun x hx=>⟨(ih.2 x hx).1 q rfl,(ih.2 x hx).2 q rfl⟩) ih.1,fun x hx=>?_⟩
  rcases Z8.mp hx with rfl|hx
  ·exact⟨h1,h3⟩
  ·have hqx:=(ih.2 x hx).1 q rfl
   refine⟨fun y hy=>acp (h1 y hy) hqx,fun y hy=>?_⟩
   exact t y q x (h1 y hy) hqx (hr.mem x hx) (h3 y hy) ((ih.2 x hx).2 q rfl)
theorem St.gap{c:Nat→Nat}{prev:Option Nat}{left:Nat}{l:List Nat}(h:St a n c prev left l):∀k q,l[k]?=some q→∀e,(if k=0 then Af prev e∧Cp a prev e else ∃p,l[k-1]?=some p∧p<e∧a p e)→e<q→c e+k<left:=by
 induction h with
 | nil=>intro k q hk;simp at hk
 | @cons prev left q r h1 h2 h3 h4 h5 hr ih=>
  intro k x hk e he jQ
  cases k with
  | zero=>
   rw[List.getElem?_cons_zero] at hk
   cases hk
   rw[aar rfl] at he
   exact h5 e he.1 jQ he.2
  | succ k=>
   rw[List.getElem?_cons_succ] at hk
   rw[aap (by omega)] at he
   obtain⟨p,hp,hpe,hap⟩:=he
   have:=ih k x hk e (by
    by_cases z:k=0
    ·subst z
     rw[aar rfl]
     have:q=p:=by simpa using hp
     subst this
     exact⟨fun y hy=>by cases hy;exact hpe,fun y hy=>by cases hy;exact hap⟩
    ·rw[aap z]
     refine⟨p,?_,hpe,hap⟩
     rw[show k+1-1=(k-1)+1 by omega,List.getElem?_cons_succ] at hp
     exact hp) jQ
   omega
theorem Dj{c:Nat→Nat}(C:Iy a n c):∀{i:Nat} {r:List Nat},NT a (i::r)→(∀x∈i::r,x<n)→(i::r).length≤c i
 | i,[],_,h=>C.one i (h i aal)
 | i,j::r,hc,h=>by
  have h1:=List.pairwise_cons.mp hc
  have h2:=Dj C h1.2 fun x hx=>h x (aae _ hx)
  have h3:=h1.1 j aal
  have:=C.up i j h3.1 (h j (by simp)) h3.2
  rw[aac]
  omega
structure LG(a:Nat→Nat→Prop)(ps:List Nat)(b:List Nat):Prop where
 len:b.length=ps.length
 up:∀(i j x y u v:Nat),i<j→ps[i]?=some x→ps[j]?=some y→b[i]?=some u→b[j]?=some v→a x y→u+1≤v
 is:∀(j y v:Nat),ps[j]?=some y→b[j]?=some v→v=1∨∃i x u:Nat,i<j∧ps[i]?=some x∧b[i]?=some u∧a x y∧v=u+1
 one:∀(j v:Nat),b[j]?=some v→1≤v
theorem LG.chain{ps b:List Nat}(B:LG a ps b)(t:Rf a n)(hn:∀x∈ps,x<n)(hp:ps.Pairwise (·<·)):∀(m j y v:Nat),j<m→ps[j]?=some y→b[j]?=some v→∃l,NT a (l++[y])∧(∀x∈l++[y],x∈ps)∧(l++[y]).length=v
 | 0,j,_,_,h,_,_=>by omega
 | m+1,j,y,v,hj,hy,hv=>by
  have RI:=WI hy
  rcases B.is j y v hy hv with rfl|⟨i,x,u,DR,hx,hu,Lv,rfl⟩
  ·exact⟨[],List.pairwise_singleton _ _,fun z hz=>by simp at hz;rw[hz];exact RI,rfl⟩
  ·obtain⟨l,h1,h2,h3⟩:=B.chain t hn hp m i x u (by omega) hx hu
   have jQ:x<y:=by
    have g1:=(List.getElem?_eq_some_iff.mp hx)
    have g2:=(List.getElem?_eq_some_iff.mp hy)
    have:=aaJ.mp hp i j g1.1 g2.1 DR
    rw[g1.2,g2.2] at this
    exact this
   refine⟨l++[x],?_,fun z hz=>?_,by rw[W4,h3];rfl⟩
   ·unfold NT
    rw[List.pairwise_append]
    refine⟨h1,List.pairwise_singleton _ _,fun z hz w hw=>?_⟩
    rw[WG.mp hw]
    rcases Z3.mp hz with hz|hz
    ·have:=(List.pairwise_append.mp h1).2.2 z hz x (by simp)
     exact⟨by omega,t z x y this.1 jQ (hn y RI) this.2 Lv⟩
    ·rw[WG.mp hz];exact⟨jQ,Lv⟩
   ·rcases Z3.mp hz with hz|hz
    ·exact h2 z hz
    ·rw[WG.mp hz];exact RI
theorem LG.le{ps b:List Nat}(B:LG a ps b)(hp:ps.Pairwise (·<·)):∀(l:List Nat)(y j v:Nat),NT a (l++[y])→(∀x∈l++[y],x∈ps)→ps[j]?=some y→b[j]?=some v→(l++[y]).length≤v:=by
 intro l
 generalize e:l.reverse=q
 induction q generalizing l with
 | nil=>
  intro y j v _ _ _ hv
  have:l=[]:=List.reverse_eq_nil_iff.mp e
  subst this
  exact B.one j v hv
 | cons x r ih=>
  intro y j v hc hm hy hv
  have el:l=r.reverse++[x]:=by rw[←List.reverse_reverse l,e,abZ]
  subst el
  have h1:=List.pairwise_append.mp hc
  have Lv:=h1.2.2 x (by simp) y (by simp)
  obtain⟨i,hi⟩:=aaC.mp (hm x (by simp))
  have N8:=(List.getElem?_eq_some_iff.mp hi).1
  obtain⟨u,hu⟩:∃u,b[i]?=some u:=⟨_,TZ (by rw[B.len];exact N8)⟩
  have DR:i<j:=by
   have g1:=List.getElem?_eq_some_iff.mp hi
   have g2:=List.getElem?_eq_some_iff.mp hy
   rcases abX i j with z|z|z
   ·exact z
   ·subst z;rw[hi] at hy;cases hy;omega
   ·have:=aaJ.mp hp j i g2.1 g1.1 z
    rw[g1.2,g2.2] at this
    omega
  have:=ih r.reverse (List.reverse_reverse r) x i u h1.1 (fun z hz=>hm z (aas _ hz)) hi hu
  have:=B.up i j x y u v DR hi hy hu hv Lv.2
  rw[W4]
  show(r.reverse++[x]).length+1≤v
  omega
def Mx(b:List Nat)(m:Nat):Prop:=(b=[]→m=0)∧(b≠[]→m∈b∧∀x∈b,x≤m)
theorem M3{ps b:List Nat}{m:Nat}(B:LG a ps b)(t:Rf a n)(hn:∀x∈ps,x<n)(hp:ps.Pairwise (·<·))(M:Mx b m){c:Nat→Nat}(C:Iy a n c){i:Nat}(hi:i<n)(RE:∀x∈ps,x=i∨i<x∧a i x):m≤c i:=by
 by_cases hb:b=[]
 ·rw[M.1 hb];exact aaz _
 ·obtain⟨hm,_⟩:=M.2 hb
  obtain⟨j,hj⟩:=aaC.mp hm
  have QJ:=(List.getElem?_eq_some_iff.mp hj).1
  rw[B.len] at QJ
  obtain⟨l,h1,h2,h3⟩:=B.chain t hn hp (j+1) j ps[j] m (by omega) (TZ QJ) hj
  generalize l++[ps[j]]=q at h1 h2 h3
  cases q with
  | nil=>rw[←h3];exact aaz _
  | cons x r=>
   rw[←h3]
   rcases RE x (h2 x aal) with e|⟨e1,e2⟩
   ·subst e
    exact Dj C h1 fun z hz=>hn z (h2 z hz)
   ·have hh:NT a (i::x::r):=List.Pairwise.cons (fun z hz=>by
     rcases Z8.mp hz with rfl|VX
     ·exact⟨e1,e2⟩
     ·have:=(List.pairwise_cons.mp h1).1 z VX
      exact⟨by omega,t i x z e1 this.1 (hn z (h2 z hz)) e2 this.2⟩) h1
    have:=Dj C hh fun z hz=>(Z8.mp hz).elim (fun e=>by rw[e];exact hi) fun hz=>hn z (h2 z hz)
    rw[aac] at this
    omega
theorem KO{b l:List Nat}{m L:Nat}(B:LG a (List.range n) b)(t:Rf a n)(M:Mx b m){c:Nat→Nat}(C:Iy a n c)(hL:∀i,i<n→c i≤L)(hS:St a n c none L l):m=L:=by
 have hp:(List.range n).Pairwise (·<·):=List.pairwise_lt_range
 have hl:=hS.len
 have DP:=(hS.chain t).1
 refine Nat.le_antisymm ?_ ?_
 ·by_cases hb:b=[]
  ·rw[M.1 hb];exact aaz _
  ·obtain⟨hm,_⟩:=M.2 hb
   obtain⟨j,hj⟩:=aaC.mp hm
   have QJ:=(List.getElem?_eq_some_iff.mp hj).1
   rw[B.len,aaR] at QJ
   obtain⟨q,h1,h2,h3⟩:=B.chain t (fun x hx=>aaX.mp hx) hp (j+1) j j m (by omega) (abu QJ) hj
   generalize q++[j]=q at h1 h2 h3
   cases q with
   | nil=>rw[←h3];exact aaz _
   | cons x r=>
    rw[←h3]
    have hx:=aaX.mp (h2 x aal)
    exact XI (Dj C h1 fun z hz=>aaX.mp (h2 z hz)) (hL x hx)
 ·rcases List.eq_nil_or_concat l with e|⟨q,y,e⟩
  ·rw[←hl,e];exact aaz _
  ·have e:l=q++[y]:=by rw[e,List.concat_eq_append]
   have hy:y<n:=hS.mem y (by rw[e];simp)
   obtain⟨v,hv⟩:∃v,b[y]?=some v:=⟨_,TZ (by rw[B.len,aaR];exact hy)⟩
   have h1:=B.le hp q y y v (by rw[←e];exact DP) (fun x hx=>aaX.mpr (hS.mem x (by rw[e];exact hx))) (abu hy) hv
   rw[←e,hl] at h1
   have hb:b≠[]:=fun z=>by rw[z] at hv;simp at hv
   exact XI h1 ((M.2 hb).2 v (WI hv))
end
section
variable{a:Nat→Nat→Prop}{n:Nat}
theorem Ar{c c':Nat→Nat}(C:Iy a n c)(C':Iy a n c'):∀k i,n-i≤k→i<n→c i≤c' i
 | 0,i,h,hi=>by omega
 | k+1,i,h,hi=>by
  rcases C.is i hi with z|⟨j,h1,h2,h3,h4⟩
  ·rw[z];exact C'.one i hi
  ·have:=Ar C C' k j (by omega) h2
   have:=C'.up i j h1 h2 h3
   omega
theorem St.uniq{c c':Nat→Nat}(hc:∀i,i<n→c i=c' i){prev:Option Nat}{L:Nat}{l l':List Nat}(h:St a n c prev L l)(h':St a n c' prev L l'):l=l':=by
 induction h generalizing l' with
 | nil=>cases h';rfl
 | @cons prev left q r h1 h2 h3 h4 h5 t ih=>
  cases h' with
  | @cons _ _ q' r' g1 g2 g3 g4 g5 t'=>
   have e:q=q':=by
    rcases abX q q' with z|z|z
    ·have:=g5 q h1 z h3
     rw[←hc q h2] at this
     omega
    ·exact z
    ·have:=h5 q' g1 z g3
     rw[hc q' g2] at this
     omega
   subst e
   rw[ih t']
theorem St.top{c:Nat→Nat}{prev:Option Nat}{L:Nat}{l:List Nat}(h:St a n c prev L l):L=0∨∃q,q<n∧c q=L:=by
 cases h with
 | nil=>exact .inl rfl
 | cons _ h2 _ h4 _ _=>exact .inr ⟨_,h2,h4⟩
theorem Gn{c c':Nat→Nat}{L L':Nat}{l l':List Nat}(C:Iy a n c)(C':Iy a n c')(hL:∀i,i<n→c i≤L)(hL':∀i,i<n→c' i≤L')(h:St a n c none L l)(h':St a n c' none L' l'):l=l':=by
 have hc:∀i,i<n→c i=c' i:=fun i hi=>Nat.le_antisymm (Ar C C' _ i (WL _) hi) (Ar C' C _ i (WL _) hi)
 have e1:L≤L':=by
  rcases h.top with z|⟨q,hq,e⟩
  ·omega
  ·rw[←e,hc q hq];exact hL' q hq
 have e2:L'≤L:=by
  rcases h'.top with z|⟨q,hq,e⟩
  ·omega
  ·rw[←e,←hc q hq];exact hL q hq
 have:L=L':=by omega
 subst this
 exact h.uniq hc h'
theorem KP{lt:Nm→Nm→Prop}{row:List Ln}{l:List Nat}(hc:NT (ltAt lt row) l)(yG:∀i,i<row.length→i∈l):row.Pairwise fun x y=>lt x.nm y.nm:=by
 rw[aaJ]
 intro i j hi hj DR
 obtain⟨p,hp⟩:=aaC.mp (yG i hi)
 obtain⟨q,hq⟩:=aaC.mp (yG j hj)
 have g1:=List.getElem?_eq_some_iff.mp hp
 have g2:=List.getElem?_eq_some_iff.mp hq
 have YW:p<q:=by
  rcases abX p q with z|z|z
  ·exact z
  ·subst z;rw[hp] at hq;cases hq;omega
  ·have:=(aaJ.mp hc q p g2.1 g1.1 z).1
   rw[g1.2,g2.2] at this
   omega
 have:=(aaJ.mp hc p q g1.1 g2.1 YW).2
 rw[g1.2,g2.2] at this
 obtain⟨x,y,hx,hy,z⟩:=this
 rw[TZ hi] at hx
 rw[TZ hj] at hy
 cases hx;cases hy
 exact z
end
theorem Iz{lt:Nm→Nm→Prop}{rk:Nm→Nat}(hr:∀m n,lt m n→rk m<rk n){ls R:List Ln}(nd:(ls.map (·.nm)).Nodup)(hp:R.Perm ls)(hc:R.Pairwise fun a b=>lt a.nm b.nm):rowOf lt ls=R:=by
 have pm:=zE hr nd
 refine List.Perm.eq_of_pairwise (le:=fun a b=>lt a.nm b.nm) (fun a b _ _ h1 h2=>?_) ?_ hc (pm.trans hp.symm)
 ·have:=hr _ _ h1
  have:=hr _ _ h2
  omega
 ·have N9:(rowOf lt ls).Pairwise fun a b=>a.nm≠b.nm:=List.pairwise_map.mp ((pm.map _).nodup_iff.mpr nd)
  have tot:∀a∈R,∀b∈R,a.nm≠b.nm→lt a.nm b.nm∨lt b.nm a.nm:=fun a ha b hb ne=>by
   obtain⟨i,hi,rfl⟩:=List.mem_iff_getElem.mp ha
   obtain⟨j,hj,rfl⟩:=List.mem_iff_getElem.mp hb
   have hp:=aaJ.mp hc
   rcases abX i j with z|z|z
   ·exact .inl (hp i j hi hj z)
   ·subst z;exact absurd rfl ne
   ·exact .inr (hp j i hj hi z)
  refine((Cw hr nd).and N9).imp_of_mem fun ha hb h=>?_
  exact(tot _ ((pm.trans hp.symm).subset ha) _ ((pm.trans hp.symm).subset hb) h.2).resolve_right h.1
open Classical in
theorem As{lt:Nm→Nm→Prop}{row:List Ln}(h:row.Pairwise fun a b=>lt a.nm b.nm):jH lt row=[]:=by
 unfold jH
 rw[List.flatMap_eq_nil_iff]
 intro i hi
 rw[List.map_eq_nil_iff,List.filter_eq_nil_iff]
 intro j hj z
 have z:¬ltAt lt row i j:=aak z
 apply z
 have hi:=aaX.mp hi
 obtain⟨k,hk,e⟩:=List.mem_range'.mp hj
 have hj:j<row.length:=by omega
 exact⟨row[i],row[j],TZ hi,TZ hj,aaJ.mp h i j hi hj (by omega)⟩
theorem NU(L:List Ln)(row:List Ln)(n:Nat):Rf (ltAt (Ah L) row) n:=fun i j k _ _ _ ⟨x,y,h1,h2,h3⟩ ⟨y',z,h4,h5,h6⟩=>by
 rw[h2] at h4
 cases h4
 exact⟨x,z,h1,h5,h3.trans h6⟩
open Classical in
theorem KQ{lt:Nm→Nm→Prop}{row:List Ln}{i j:Nat}:(i,j)∈jH lt row↔i<j∧j<row.length∧¬ltAt lt row i j:=by
 unfold jH
 rw[aa_]
 constructor
 ·rintro⟨k,hk,h⟩
  obtain⟨q,hq,e⟩:=List.mem_map.mp h
  cases e
  obtain⟨h1,h2⟩:=aao.mp hq
  obtain⟨m,hm,e⟩:=List.mem_range'.mp h1
  have:=aaX.mp hk
  exact⟨by omega,by omega,aak h2⟩
 ·rintro⟨h1,h2,h3⟩
  exact⟨i,aaX.mpr (by omega),List.mem_map.mpr ⟨j,aao.mpr ⟨List.mem_range'.mpr ⟨j-(i+1),by omega,by omega⟩,WM h3⟩,rfl⟩⟩
section
open Dk
variable{D:Dk}{s f x:Str}
theorem Gp{ps:List Pt}{p:Pt}(ho:p.other=none):live (ps++[p])=live ps++[p]:=by
 unfold live
 rw[List.reverse_append]
 show(nr (p::ps.reverse) []).reverse=_
 rw[show nr (p::ps.reverse) []=if p.nm∈([]:List Str) then nr ps.reverse [] else p::nr ps.reverse (match p.other with|some o=>o::[]|none=>[]) from rfl,aap (by simp),ho,abZ]
theorem IA{p:Pt}(hp:p.nm∉D.names):(D.keep s p).l6 s=D.l6 s++[p]:=by
 unfold l6
 show(D.made++[p]).filter _=_
 have hh:(D.keep s p).held s=D.held s++[p.nm]:=aar rfl
 rw[hh,aaB]
 congr 1
 ·refine List.filter_congr fun q hq=>?_
  rw[decide_eq_decide,Z3,WG]
  exact⟨fun z=>z.resolve_right fun e=>hp (e▸XE hq),.inl⟩
 ·rw[acg,aar (by rw[abx];simp)];rfl
theorem KR(I:Inv D)(hs:s∈D.stores)(fresh:x∉D.names){l:List Nat}(hl:∀q∈l,q<(D.row s f).length)(hc:NT (ltAt (Ah (gE (D.l6 s) f)) (D.row s f)) l){ms:List Nm}(hm:∀m,m∈ms↔∃q,q<(D.row s f).length∧q∉l∧((D.row s f)[q]?).map (·.nm)=some m) :
  (D.keep s ⟨x,some f,[],ms,none⟩).row s f=l.filterMap (fun q=>(D.row s f)[q]?)∧(D.keep s ⟨x,some f,[],ms,none⟩).pO s f=[]:=by
 have e2:(D.keep s ⟨x,some f,[],ms,none⟩).l6 s=D.l6 s++[⟨x,some f,[],ms,none⟩]:=IA fresh
 have lp:gE (D.l6 s++[⟨x,some f,[],ms,none⟩]) f=gE (D.l6 s) f:=by
  unfold gE
  rw[aaB,abe]
  simp
 have nd:((D.row s f).map (·.nm)).Nodup:=((I.pP s f).map _).nodup_iff.mpr (I.FV s f)
 have ch:(l.filterMap fun q=>(D.row s f)[q]?).Pairwise fun a b=>Ah (gE (D.l6 s) f) a.nm b.nm:=by
  rw[List.pairwise_filterMap]
  refine hc.imp fun{i j} h u hu v hv=>?_
  obtain⟨p,q,h1,h2,h3⟩:=h.2
  have hu:(D.row s f)[i]?=some u:=hu
  have hv:(D.row s f)[j]?=some v:=hv
  rw[h1] at hu
  rw[h2] at hv
  cases hu
  cases hv
  exact h3
 obtain⟨rk,LK⟩:=I.Pu s f
 have ndR:(l.filterMap fun q=>(D.row s f)[q]?).Nodup:=ch.imp fun h e=>by rw[e] at h;exact abg _ (LK.ah h)
 have I2:=I.cut (f:=f) hs fresh (ms:=ms) fun m h=>by
  obtain⟨q,hq,_,e⟩:=(hm m).mp h
  obtain⟨o,ho,rfl⟩:=Option.map_eq_some_iff.mp e
  exact XE (WI ho)
 have QE:=I2.FV s f
 rw[e2] at QE
 have uniq:∀{i j:Nat} {u v:Ln},(D.row s f)[i]?=some u→(D.row s f)[j]?=some v→u.nm=v.nm→i=j:=fun{i j u v} h1 h2 e=>by
  have g1:((D.row s f).map (·.nm))[i]?=some u.nm:=by rw[Z4,h1];rfl
  have g2:((D.row s f).map (·.nm))[j]?=some v.nm:=by rw[Z4,h2];rfl
  exact(abQ (List.getElem?_eq_some_iff.mp g1).1 nd).mp (by rw[g1,g2,e])
 have mem:∀o,o∈l.filterMap (fun q=>(D.row s f)[q]?)↔o∈k9 (D.l6 s++[⟨x,some f,[],ms,none⟩]) f:=fun o=>by
  unfold k9
  rw[Gp rfl]
  have lpl:gE (live (D.l6 s)++[⟨x,some f,[],ms,none⟩]) f=gE (live (D.l6 s)) f:=by
   unfold gE
   rw[aaB,abe]
   simp
  have gl:gone (live (D.l6 s)++[⟨x,some f,[],ms,none⟩])=gone (live (D.l6 s))++ms:=by
   unfold gone
   rw[abe];simp
  have Ot:∀l,l∈D.row s f↔l∈gE (live (D.l6 s)) f∧l.nm∉gone (live (D.l6 s)):=fun l=>by
   rw[(I.pP s f).mem_iff]
   unfold k9
   rw[aao,abx]
  rw[lpl,gl,aao,abx,Z3,abI]
  constructor
  ·rintro⟨q,hq,e⟩
   have hr:=(Ot o).mp (WI e)
   refine⟨hr.1,fun z=>z.elim hr.2 fun z=>?_⟩
   obtain⟨q',_,hn,e'⟩:=(hm _).mp z
   obtain⟨o',qh,en⟩:=Option.map_eq_some_iff.mp e'
   exact hn (by rw[uniq qh e en];exact hq)
  ·rintro⟨h1,h2⟩
   have hr:=(Ot o).mpr ⟨h1,fun z=>h2 (.inl z)⟩
   obtain⟨q,hq⟩:=aaC.mp hr
   refine⟨q,Classical.byContradiction fun hn=>h2 (.inr ((hm _).mpr ⟨q,(List.getElem?_eq_some_iff.mp hq).1,hn,by rw[hq];rfl⟩)),hq⟩
 have er:(D.keep s ⟨x,some f,[],ms,none⟩).row s f=l.filterMap (fun q=>(D.row s f)[q]?):=by
  unfold Dk.row
  rw[e2,lp]
  exact Iz (rk:=rk) (fun m n h=>LK.ah h) QE ((List.perm_ext_iff_of_nodup ndR ((List.pairwise_map.mp QE).imp fun h e=>h (aa6 _ e))).mpr mem) ch
 refine⟨er,?_⟩
 unfold Dk.pO
 rw[er,e2,lp]
 exact As ch
end
end PM
namespace PK
open PySem L2 PM
noncomputable def B3(n:Nat)(c:Nat→Nat):List V:=(List.range n).map fun(i:Nat)=>V.int (c i)
noncomputable def Gq(c:Nat→Nat)(i v:Nat):Nat→Nat:=fun k=>if k=i then v else c k
theorem uE{n:Nat}{c:Nat→Nat}{i:Nat}(h:i<n):(B3 n c)[i]?=some (V.int (c i)):=by
 unfold B3
 rw[Z4,abu h];rfl
theorem yV{n:Nat}{c:Nat→Nat}:(B3 n c).length=n:=by unfold B3;rw[TU,aaR]
theorem M4{n:Nat}{c:Nat→Nat}{i v:Nat}(h:i<n):(B3 n c).set i (V.int v)=B3 n (Gq c i v):=by
 refine List.ext_getElem? fun k=>?_
 by_cases e:k=i
 ·subst e
  rw[abb (by rw[yV];exact h),uE h]
  unfold Gq
  rw[aar rfl]
 ·rw[abi (abK e)]
  by_cases hk:k<n
  ·rw[uE hk,uE hk]
   unfold Gq
   rw[aap e]
  ·rw[List.getElem?_eq_none (by rw[yV];omega),List.getElem?_eq_none (by rw[yV];omega)]
structure CF(a:Nat→Nat→Prop)(n p:Nat)(c:Nat→Nat):Prop where
 low:∀i,i<p→c i=1
 one:∀i,p≤i→i<n→1≤c i
 up:∀i j,p≤i→i<j→j<n→a i j→c j+1≤c i
 is:∀i,p≤i→i<n→c i=1∨∃j,i<j∧j<n∧a i j∧c i=c j+1
structure CG(a:Nat→Nat→Prop)(n p q:Nat)(c:Nat→Nat):Prop where
 low:∀i,i<p→c i=1
 one:∀i,p≤i→i<n→1≤c i
 up:∀i j,p<i→i<j→j<n→a i j→c j+1≤c i
 is:∀i,p<i→i<n→c i=1∨∃j,i<j∧j<n∧a i j∧c i=c j+1
 W0:∀j,p<j→j<q→a p j→c j+1≤c p
 pis:c p=1∨∃j,p<j∧j<q∧a p j∧c p=c j+1
theorem CG.start{a:Nat→Nat→Prop}{n p:Nat}{c:Nat→Nat}(h:CF a n (p+1) c):CG a n p (p+1) c:=
 ⟨fun i hi=>h.low i (by omega),fun i hi hn=>by
  by_cases e:i=p
  ·rw[h.low i (by omega)];exact WL _
  ·exact h.one i (by omega) hn,fun i j hi=>h.up i j hi,fun i hi=>h.is i hi,fun j h1 h2=>by omega,.inl (h.low p (by omega))⟩
theorem CG.done{a:Nat→Nat→Prop}{n p:Nat}{c:Nat→Nat}(h:CG a n p n c)(hp:p<n):CF a n p c:=
 ⟨h.low,h.one,fun i j hi DR hj ha=>by
  by_cases e:i=p
  ·subst e;exact h.W0 j DR hj ha
  ·exact h.up i j (by omega) DR hj ha,fun i hi hn=>by
  by_cases e:i=p
  ·subst e
   rcases h.pis with z|⟨j,h1,h2,h3⟩
   ·exact .inl z
   ·exact .inr ⟨j,h1,h2,h3⟩
  ·exact h.is i (by omega) hn⟩
theorem CG.pass{a:Nat→Nat→Prop}{n p q:Nat}{c:Nat→Nat}(h:CG a n p q c)(hq:a p q→c q+1≤c p):CG a n p (q+1) c:=
 ⟨h.low,h.one,h.up,h.is,fun j h1 h2 ha=>by
  by_cases e:j=q
  ·subst e;exact hq ha
  ·exact h.W0 j h1 (by omega) ha,h.pis.imp id fun⟨j,h1,h2,h3⟩=>⟨j,h1,by omega,h3⟩⟩
theorem CG.take{a:Nat→Nat→Prop}{n p q:Nat}{c:Nat→Nat}(h:CG a n p q c)(YW:p<q)(ha:a p q)(hc:c p≤c q):CG a n p (q+1) (Gq c p (c q+1)):=by
 have e:∀i,i≠p→Gq c p (c q+1) i=c i:=fun i hi=>aap hi
 have ep:Gq c p (c q+1) p=c q+1:=aar rfl
 refine⟨fun i hi=>by rw[e i (by omega)];exact h.low i hi,fun i hi hn=>?_,fun i j hi DR hj ha=>?_,fun i hi hn=>?_,fun j h1 h2 Qv=>?_,.inr ⟨q,YW,by omega,ha,by rw[ep,e q (by omega)]⟩⟩
 ·by_cases z:i=p
  ·rw[z,ep];omega
  ·rw[e i z];exact h.one i hi hn
 ·rw[e i (by omega),e j (by omega)];exact h.up i j hi DR hj ha
 ·rw[e i (by omega)]
  rcases h.is i hi hn with z|⟨j,h1,h2,h3,h4⟩
  ·exact .inl z
  ·exact .inr ⟨j,h1,h2,h3,by rw[e j (by omega)];exact h4⟩
 ·rw[e j (by omega),ep]
  by_cases z:j=q
  ·rw[z];exact WL _
  ·have:=h.W0 j h1 (by omega) Qv
   omega
theorem CF.all{a:Nat→Nat→Prop}{n:Nat}{c:Nat→Nat}(h:CF a n 0 c):Iy a n c:=⟨fun i hi=>h.one i (aaz _) hi,fun i j DR hj ha=>h.up i j (aaz _) DR hj ha,fun i hi=>h.is i (aaz _) hi⟩
theorem Qf(a l:Addr):(NP a l).lookup ("most_from":Str)=none:=by kernel_rfl
section
variable{P:Program}{w:World}{K:Qqy}{mg:Qqx}{base:Heap}{A:Ad}
def W3(A:Ad):Sp:=fun vs H Q _=>∃(p:Addr)(al row:List Ln),vs=[.ref p]∧C5 A H p al row∧(∀l∈row,l.nm∈al.map (·.nm))∧uN row.length∧∀r H' c,gj H H'→H r=none→H' r=some (.lst (B3 row.length c))→Iy (ltAt (Ah al) row) row.length c→(∀i,i<row.length→c i≤row.length)→Q (.ref r) H'
theorem KS{a:Nat→Nat→Prop}{n:Nat}{c:Nat→Nat}(C:Iy a n c):∀k i,n-i≤k→i<n→c i+i≤n
 | 0,i,h,hi=>by omega
 | k+1,i,h,hi=>by
  rcases C.is i hi with z|⟨j,h1,h2,_,h4⟩
  ·omega
  ·have:=KS C k j (by omega) h2
   omega
open Classical in
theorem Dl(T:Txt mg)(O:Ok K mg A):ij P w K mg base mr 2 A.oR A.oS ["self"] (W3 A):=by
 have j1:=@sP P w K mg base A T O
 refine O.m_.f.qr j_ fun jl A0 outer s H vs Q E hr h=>?_
 obtain⟨p,al,row,rfl,S,Of,jA,q⟩:=h
 obtain⟨dx,ah,l,h1,h2,⟨as,h4,h5⟩⟩:=id S
 have hlen:=aaj h5
 have v_:row.length≤4000:=jA
 have sz:sizeLine=16777216:=aaw
 have el:((as.map V.ref).length:Int)=(row.length:Int):=by rw[TU,hlen]
 refine⟨_,(de (kW 1 j_ (gr Ck (iO (a_ gc d_)) (gs gk (by rfl) T.iW aah (a_ (gC (pv 0) rfl) d_))))
   (de (il aam rfl (tf rfl T.jj (a_ (gr o8 (gs gk (by rfl) T.iW aah (a_ (gC (pv 0) rfl) d_)) gc) (a_ (rJ nO gc) (a_ (rJ nO gc) d_)))) (qY 2 j_) (fR (il aam rfl (pJ rfl T.jj (a_ (gr iC (pv 2) gc) (a_ (gs gk (by rfl) T.iW aah (a_ (gC (pv 0) rfl) d_)) d_))) (qY 3 j_) (fR (ik ((pw_and (ib Ji (pE (pv 1) (pv 3)) (pE (pv 1) (pv 2)) (ip _)) (pw_and1 (kr (uZ (pv 0) O.i3 O.lT j1 hr (a_ (pv 2) (a_ (pv 3) d_)))))).pt) (fR (y0 (gr iC (pE (pv 1) (pv 3)) gc) (yZ (pv 1) (pv 2) set_list))) g_)))))
   (fR (hE (pv 1))))),?_⟩
 refine DO ?_;intro _ _
 refine⟨L2.jA,fun l0 N_=>?_⟩
 have s0:gj H (upd H l0 (.lst [.int 1])):=(gj.refl H).new N_
 refine⟨_,rfl,p,A.hG,dx,_,_,rfl,s0 _ _ h1,O.i3,O.ia,jE ah l,l,_,rfl,.inl (gH.of (s0 _ _ h4)),l0,_,_,rfl,rfl,b_,by omega,by omega,by simp;omega,fun r pF=>?_⟩
 rw[el]
 have e0:(List.replicate (row.length:Int).toNat [V.int 1]).flatten=B3 row.length (fun _=>1):=by
  rw[aa2]
  generalize row.length=n
  unfold B3
  induction n with
  | zero=>rfl
  | succ n ih=>rw[List.replicate_succ',List.flatten_append,ih,abY,aat];rfl
 rw[e0]
 have Od:H r=none:=s0.free pF
 have s1:=s0.new (o:=.lst (B3 row.length (fun _=>1))) pF
 have u1:(upd (upd H l0 (.lst [.int 1])) r (.lst (B3 row.length (fun _=>1)))) r=some (.lst (B3 row.length (fun _=>1))):=b_
 generalize upd (upd H l0 (.lst [.int 1])) r (.lst (B3 row.length (fun _=>1)))=H1 at s1 u1
 refine⟨_,rfl,p,A.hG,dx,_,_,rfl,s1 _ _ h1,O.i3,O.ia,jE ah l,l,_,rfl,.inl (gH.of (s1 _ _ h4)),_,_,rfl,rfl,_,rfl,_,rfl,_,_,rfl,⟨by omega,by omega,by omega,by omega⟩,?_⟩
 rw[el,show((row.length:Int)-1 - -1).toNat=row.length by omega]
 let Jv:=fun(m:Nat) (σ:St) (H2:Hp)=>∃(v2 v3:Option V)(c:Nat→Nat),σ=[rr p,rr r,v2,v3]∧gj H H2∧H2 r=some (.lst (B3 row.length c))∧CF (ltAt (Ah al) row) row.length (row.length-m) c
 refine ql Jv ⟨none,none,fun _=>1,rfl,s1,u1,⟨fun _ _=>rfl,fun i hi hn=>by omega,fun i j hi DR hj=>by omega,fun i hi hn=>by omega⟩⟩ ?_ ?_
 ·rintro m σ H2 hm ⟨v2,v3,c,rfl,s2,k1,cf⟩
  obtain⟨i,hi⟩:∃i,i+m+1=row.length:=⟨row.length-1-m,by omega⟩
  rw[show(row.length:Int)-1+(m:Int) * -1=(i:Int) by omega]
  rw[show row.length-m=i+1 by omega] at cf
  refine⟨_,rfl,_,_,rfl,rfl,_,rfl,p,A.hG,dx,_,_,rfl,s2 _ _ h1,O.i3,O.ia,jE ah l,l,_,rfl,.inl (gH.of (s2 _ _ h4)),_,_,rfl,⟨by omega,by omega,by omega,by omega⟩,?_⟩
  rw[el,show((row.length:Int)-((i:Int)+1)).toNat=row.length-(i+1) by omega]
  let Jv:=fun(t:Nat) (σ:St) (H3:Hp)=>∃(v3:Option V)(c:Nat→Nat),σ=[rr p,rr r,ri i,v3]∧gj H H3∧H3 r=some (.lst (B3 row.length c))∧CG (ltAt (Ah al) row) row.length i (i+1+t) c
  refine jB Jv ⟨v3,c,rfl,s2,k1,CG.start cf⟩ ?_ ?_
  ·rintro t σ H3 ht ⟨v3,c,rfl,s3,k1,cg⟩
   rw[show(i:Int)+1+(t:Int)=((i+1+t:Nat):Int) by omega]
   have hj:i+1+t<row.length:=by omega
   have ei:row[i]?=some row[i]:=TZ (by omega)
   have ej:row[i+1+t]?=some row[i+1+t]:=TZ hj
   have jQ:ltAt (Ah al) row i (i+1+t)↔Ah al row[i].nm row[i+1+t].nm:=by
    constructor
    ·rintro⟨a,b,ha,hb,z⟩
     rw[ei] at ha;rw[ej] at hb;cases ha;cases hb
     exact z
    ·exact fun z=>⟨_,_,ei,ej,z⟩
   refine⟨_,rfl,_,rfl,r,_,_,_,rfl,rfl,gH.of k1,ic rfl (uE hj),_,rfl,_,rfl,r,_,_,_,rfl,rfl,gH.of k1,ic rfl (uE (show i<row.length by omega)),_,_,rfl,rfl,_,rfl,?_⟩
   refine kF (fun RJ=>?_) (fun RJ=>?_)
   ·have RJ:c i≤c (i+1+t):=by have:=aak RJ;omega
    refine⟨_,rfl,p,dx,_,rfl,s3 _ _ h1,Gb ah l,_,rfl,_,rfl,p,al,row,i,i+1+t,_,_,rfl,S.same s3,ei,ej,Of _ (List.getElem_mem hj),_,rfl,?_⟩
    by_cases hc:Ah al row[i].nm row[i+1+t].nm
    ·rw[WM hc]
     refine kD ?_
     refine⟨_,rfl,_,rfl,r,_,_,_,rfl,rfl,gH.of k1,ic rfl (uE hj),_,_,rfl,rfl,?_⟩
     refine⟨_,rfl,_,rfl,r,_,_,i,rfl,rfl,k1,zw rfl (by rw[yV];omega),?_⟩
     refine⟨_,Gq c i (c (i+1+t)+1),rfl,s3.upd Od,?_,cg.take (by omega) (jQ.mpr hc) RJ⟩
     rw[b_,←M4 (by omega)]
     rfl
    ·rw[Z6 hc]
     exact i_ ⟨_,c,rfl,s3,k1,cg.pass fun z=>absurd (jQ.mp z) hc⟩
   ·have RJ:¬c i≤c (i+1+t):=fun z=>RJ (WM (by omega))
    exact i_ ⟨_,c,rfl,s3,k1,cg.pass fun _=>by omega⟩
  ·rintro σ H3 ⟨v3,c,rfl,s3,k1,cg⟩
   rw[show i+1+(row.length-(i+1))=row.length by omega] at cg
   exact⟨_,_,c,rfl,s3,k1,by rw[show row.length-(m+1)=i by omega];exact cg.done (by omega)⟩
 ·rintro σ H2 ⟨v2,v3,c,rfl,s2,k1,cf⟩
  rw[acm] at cf
  have C:=cf.all
  exact⟨_,rfl,q r H2 c s2 Od k1 C fun i hi=>by have:=KS C _ i (WL _) hi;omega⟩
noncomputable abbrev kZ(l:List Nat):List V:=l.map fun(i:Nat)=>V.int i
theorem qg(xs:List Nat)(i:Nat):kZ xs++[V.int i]=kZ (xs++[i]):=by unfold kZ;rw[aat];rfl
def NV(al row:List Ln)(l:List Nat):Prop:=∃c L,Iy (ltAt (Ah al) row) row.length c∧(∀i,i<row.length→c i≤L)∧L≤row.length∧St (ltAt (Ah al) row) row.length c none L l
theorem KU{n:Nat}{c:Nat→Nat}:B3 n c=((List.range n).map fun(i:Nat)=>(c i:Int)).map V.int:=by unfold B3;rw[List.map_map];rfl
def S9(A:Ad):Sp:=fun vs H Q _=>∃(p:Addr)(al row:List Ln),vs=[.ref p]∧C5 A H p al row∧(∀l∈row,l.nm∈al.map (·.nm))∧uN row.length∧∀r H' l,gj H H'→H r=none→H' r=some (.lst (kZ l))→NV al row l→Q (.ref r) H'
open Classical in
theorem Gr(T:Txt mg)(O:Ok K mg A):ij P w K mg base mr 3 A.q9 A.q_ ["self"] (S9 A):=by
 have j1:=@sP P w K mg base A T O
 have wc:=@Dl P w K mg base A T O
 refine O.pe.f.qr jw fun jl A0 outer s H vs Q E hr h=>?_
 obtain⟨p,al,row,rfl,S,Of,jA,q⟩:=h
 obtain⟨dx,ah,l,h1,h2,⟨as,h4,h5⟩⟩:=id S
 have hlen:=aaj h5
 have v_:row.length≤4000:=jA
 have sz:sizeLine=16777216:=aaw
 have el:((as.map V.ref).length:Int)=(row.length:Int):=by rw[TU,hlen]
 refine⟨_,(de (kW 1 jw (uV (pv 0) O.i3 O.m_.t wc (hr.mono (by decide)) O.m_.b .nil nU))
   (de (kW 2 jw (Di rfl (by rfl) T.GW (a_ (pv 1) d_)))
   (de (kW 3 jw (iO d_))
   (de (il aam rfl (jh rfl T.jj (a_ (gs gk (by rfl) T.iW aah (a_ (gC (pv 0) rfl) d_)) d_)) (qY 4 jw) (fR (ik ((pw_and (ib l4 (pE (pv 1) (pv 4)) (pv 2) (ip _)) (pw_and1 ((pw_or (jT (rL (pv 3) (fun _=>rfl))) (pw_or1 (kr (uZ (pv 0) O.i3 O.lT j1 hr (a_ (pE (pv 3) (rJ nO gc)) (a_ (pv 4) d_)))))).pt))).pt) (de (hX (nP aaI aaM aaN jC (pv 3) (a_ (pv 4) d_)))
   (fR (kW 2 jw (gr o8 (pv 2) gc)))) g_)))
   (fR (hE (pv 3))))))),?_⟩
 refine Pc ?_;intro _ _ _ _
 refine⟨_,rfl,p,dx,_,rfl,h1,Qf ah l,p,al,row,rfl,S,Of,jA,fun r0 H1 c s1 pF k1 C IT=>?_⟩
 refine⟨_,rfl,r0,(List.range row.length).map (fun(i:Nat)=>(c i:Int)),rfl,gH.of (by rw[←KU];exact k1),fun m hm=>?_⟩
 obtain⟨L,rfl,hL,YX,VA⟩:∃L:Nat,m=(L:Int)∧(∀i,i<row.length→c i≤L)∧(L=0∨∃q,0≤q∧q<row.length∧c q=L∧Cp (ltAt (Ah al) row) none q)∧L≤row.length:=by
  by_cases hn:row.length=0
  ·have e:(List.range row.length).map (fun(i:Nat)=>(c i:Int))=[]:=by rw[hn];rfl
   exact⟨0,hm.1 e,fun i hi=>by omega,.inl rfl,aaz _⟩
  ·have rB:(List.range row.length).map (fun(i:Nat)=>(c i:Int))≠[]:=fun e=>by
    have:=aa6 List.length e
    rw[TU,aaR] at this
    exact hn this
   obtain⟨g1,g2⟩:=hm.2 rB
   obtain⟨i,hi,rfl⟩:=List.mem_map.mp g1
   have hi:=aaX.mp hi
   refine⟨c i,rfl,fun j hj=>?_,.inr ⟨i,aaz _,hi,rfl,fun q hq=>by cases hq⟩,IT i hi⟩
   have:=g2 _ (XE (aaX.mpr hj))
   omega
 refine⟨L2.jA,fun r xj=>?_⟩
 have Od:H r=none:=s1.free xj
 have s2:=s1.new (o:=.lst []) xj
 have k2:=ie (u:=.lst []) xj k1
 have u2:(upd H1 r (.lst [])) r=some (.lst []):=b_
 generalize upd H1 r (.lst [])=H2 at s2 k2 u2
 have rB:r0≠r:=fun e=>by rw[e,xj] at k1;cases k1
 refine⟨_,rfl,p,A.hG,dx,_,_,rfl,s2 _ _ h1,O.i3,O.ia,jE ah l,l,_,rfl,.inl (gH.of (s2 _ _ h4)),_,rfl,by omega,by omega,?_⟩
 rw[el,aa2]
 let Jv:=fun(i:Nat) (σ:St) (H3:Hp)=>∃(v4:Option V)(left:Nat)(xs:List Nat),σ=[rr p,rr r0,ri left,rr r,v4]∧gj H H3∧H3 r0=some (.lst (B3 row.length c))∧H3 r=some (.lst (kZ xs))∧xs.length≤i∧(∀x∈xs,x<i)∧xs++ni (ltAt (Ah al) row) c (row.length-i) i xs.getLast? left=ni (ltAt (Ah al) row) c row.length 0 none L
 refine jB Jv
  ⟨none,L,[],rfl,s2,k2,u2,WL _,fun x hx=>(by cases hx),rfl⟩ ?_ ?_
 ·rintro i σ H3 hi ⟨v4,left,xs,rfl,s3,k3,u3,VH,LN,Ou⟩
  rw[show(0:Int)+(i:Int)=(i:Int) by omega]
  rw[show row.length-i=(row.length-(i+1))+1 by omega,ni] at Ou
  have ei:row[i]?=some row[i]:=TZ hi
  refine⟨_,rfl,_,rfl,r0,_,_,_,rfl,rfl,gH.of k3,ic rfl (uE hi),_,rfl,rfl,_,rfl,?_⟩
  have skip:¬(c i=left∧Cp (ltAt (Ah al) row) xs.getLast? i)→∃(v4:Option V)(Ov:Nat)(UU:List Nat),[some (V.ref p),some (.ref r0),some (.int left),some (.ref r),some (.int i)]=[some (.ref p),some (.ref r0),some (.int Ov),some (.ref r),v4]∧gj H H3∧H3 r0=some (.lst (B3 row.length c))∧H3 r=some (.lst (kZ UU))∧UU.length≤i+1∧(∀x∈UU,x<i+1)∧UU++ni (ltAt (Ah al) row) c (row.length-(i+1)) (i+1) UU.getLast? Ov=ni (ltAt (Ah al) row) c row.length 0 none L:=fun hn=>by
   rw[aap hn] at Ou
   exact⟨_,left,xs,rfl,s3,k3,u3,by omega,fun x hx=>Nat.lt_succ_of_lt (LN x hx),Ou⟩
  refine kF (fun he=>?_) (fun he=>?_)
  ·have he:c i=left:=by have:=V.int.inj (aak he);omega
   have c1:=C.one i hi
   have take:Cp (ltAt (Ah al) row) xs.getLast? i→gj H (upd H3 r (.lst (kZ xs++[.int i])))∧(upd H3 r (.lst (kZ xs++[.int i]))) r0=some (.lst (B3 row.length c))∧(upd H3 r (.lst (kZ xs++[.int i]))) r=some (.lst (kZ (xs++[i])))∧(xs++[i]).length≤i+1∧(∀x∈xs++[i],x<i+1)∧(xs++[i])++ni (ltAt (Ah al) row) c (row.length-(i+1)) (i+1) (xs++[i]).getLast? (left-1)=ni (ltAt (Ah al) row) c row.length 0 none L:=fun YV=>by
    rw[aar ⟨he,YV⟩] at Ou
    refine⟨s3.upd Od,by rw[e_ rB];exact k3,by rw[b_,qg],by rw[W4];exact Nat.succ_le_succ VH,fun x hx=>?_,?_⟩
    ·rcases Z3.mp hx with hx|hx
     ·exact Nat.lt_succ_of_lt (LN x hx)
     ·rw[WG.mp hx];exact ab2 _
    ·rw[←Ou,List.getLast?_append,aaQ]
     rfl
   have lft:((left:Int)-1)=((left-1:Nat):Int):=by omega
   by_cases hx:xs=[]
   ·subst hx
    refine⟨_,rfl,false,.inl ⟨_,gH.of u3,rfl⟩,kD (kD ?_)⟩
    obtain⟨t1,t2,t3,t4,t5,t6⟩:=take fun q hq=>by cases hq
    refine⟨_,rfl,.inl ⟨rfl,_,gH.of u3⟩,_,rfl,r,_,_,rfl,rfl,u3,by simp;omega,?_⟩
    refine⟨_,rfl,_,_,rfl,rfl,?_⟩
    exact⟨some (.int i),left-1,[]++[i],by rw[←lft];rfl,t1,t2,t3,t4,t5,t6⟩
   ·obtain⟨zs,y,rfl⟩:∃zs y,xs=zs++[y]:=⟨_,_,(List.dropLast_concat_getLast hx).symm⟩
    have hy:y<i:=LN y (by simp)
    have ey:row[y]?=some row[y]:=TZ (by omega)
    have jQ:ltAt (Ah al) row y i↔Ah al row[y].nm row[i].nm:=by
     constructor
     ·rintro⟨a,b,ha,hb,z⟩
      rw[ey] at ha;rw[ei] at hb;cases ha;cases hb
      exact z
     ·exact fun z=>⟨_,_,ey,ei,z⟩
    have N7:Fo (kZ (zs++[y])) (-1)=some (V.int y):=by rw[←qg];exact ze _ _
    have Ow:(zs++[y]).getLast?=some y:=by simp
    refine⟨_,rfl,true,.inl ⟨_,gH.of u3,by simp⟩,i_ ?_⟩
    refine⟨_,rfl,p,dx,_,rfl,s3 _ _ h1,Gb ah l,_,rfl,_,rfl,r,_,_,_,rfl,rfl,gH.of u3,N7,_,rfl,p,al,row,y,i,_,_,rfl,S.same s3,ey,ei,Of _ (List.getElem_mem hi),_,rfl,?_⟩
    by_cases hc:Ah al row[y].nm row[i].nm
    ·rw[WM hc]
     refine kD ?_
     obtain⟨t1,t2,t3,t4,t5,t6⟩:=take fun q hq=>by rw[Ow] at hq;cases hq;exact jQ.mpr hc
     refine⟨_,rfl,.inl ⟨rfl,_,gH.of u3⟩,_,rfl,r,_,_,rfl,rfl,u3,by rw[TU];omega,?_⟩
     refine⟨_,rfl,_,_,rfl,rfl,?_⟩
     exact⟨some (.int i),left-1,(zs++[y])++[i],by rw[←lft];rfl,t1,t2,t3,t4,t5,t6⟩
    ·rw[Z6 hc]
     exact i_ (skip fun z=>hc (jQ.mp (z.2 y Ow)))
  ·have he:¬c i=left:=fun z=>he (WM (by rw[z]))
   exact i_ (skip fun z=>he z.1)
 ·rintro σ H3 ⟨v4,left,xs,rfl,s3,k3,u3,VH,LN,Ou⟩
  rw[acm,ni,aaK] at Ou
  refine⟨_,rfl,q r H3 xs s3 Od u3 ⟨c,L,C,hL,VA,?_⟩⟩
  rw[Ou]
  exact KN C row.length 0 none L (by omega) (fun q hq=>by cases hq) YX (fun e _ he _=>hL e he) (fun e _ he=>by omega)
def M5(A:Ad):Sp:=fun vs H Q E=>∃(d:Addr)(D:Dk)(W:Addr→Prop)(s f:Str),vs=[.ref d,.str s,.str f]∧iq A H d D W∧kT s∧Small D.made∧Inv D∧(s∉D.stores→E (.ref A.iL) none H)∧(s∈D.stores→∀p H' l,gj H H'→H p=none→H' p=some (.lst (kZ l))→NV (gE (D.l6 s) f) (D.row s f) l→Q (.ref p) H')
theorem M6(T:Txt mg)(O:Ok K mg A):ij P w K mg base (tK P w) 6 A.xV A.xW ["self","store","file"] (M5 A):=by
 have iR:=@mH P w K mg base A T O
 have yJ:=@Gr P w K mg base A T O
 refine O.wW.f.qt CK fun jl A0 outer s H vs Q E hr h=>?_
 obtain⟨d,D,W,st,f,rfl,X,hf,sm,I,qe,q⟩:=h
 obtain⟨π,x⟩:=id X
 refine⟨_,(fR (hE (uV (AW bx (pv 0) O.gF O.kj iR hr (a_ (pv 1) (a_ (pv 2) d_))) O.i3 O.pe.t yJ (hr.mono (by decide)) O.pe.b .nil nU))),?_⟩
 refine⟨_,rfl,d,π.dx,_,rfl,x.hd,mG,_,rfl,_,rfl,d,D,W,st,f,rfl,X,hf,sm,I,fun h=>qe h,fun hs p H1 s1 qj S=>?_⟩
 obtain⟨dx,ah,l,h1,_⟩:=id S
 refine⟨p,dx,_,rfl,h1,PX ah l,p,_,_,rfl,S,fun l hl=>XE ((kQ _ f).subset ((I.pP st f).subset hl)),?_,fun r H2 l s2 pF u2 rE=>q hs r H2 l (s1.trans s2) (s1.free pF) u2 rE⟩
 exact XI (I.oH st f) sm.iB
theorem Rep.S_{H:Hp}{n:Nat}{v:V}{xs:List Dv}(r:Rep H n v (.l xs)):∃a vs m,v=.ref a∧H a=some (.lst vs)∧vs.length=xs.length∧∀(j:Nat) u d,vs[j]?=some u→xs[j]?=some d→Rep H m u d:=by
 cases r with
 | l h hl hr=>exact⟨_,_,_,rfl,h,hl,hr⟩
theorem Rep.Ta{H:Hp}{n:Nat}{v:V}{xs:List Dv}(r:Rep H n v (.t xs)):∃a vs m,v=.ref a∧H a=some (.tup vs)∧vs.length=xs.length∧∀(j:Nat) u d,vs[j]?=some u→xs[j]?=some d→Rep H m u d:=by
 cases r with
 | t h hl hr=>exact⟨_,_,_,rfl,h,hl,hr⟩
theorem Rep.Tc{H:Hp}{n:Nat}{v:V}{x:Str}(r:Rep H n v (.s x)):v=.str x:=by cases r;rfl
theorem Rep.Qg{H:Hp}{n:Nat}{v:V}{x:Int}(r:Rep H n v (.i x)):v=.int x:=by cases r;rfl
theorem Rep.Td{H:Hp}{n:Nat}{v:V}{x z:Str}{k:Int}(r:Rep H n v (.t [.s x,.i k,.s z])):∃a,v=.ref a∧H a=some (.tup [.str x,.int k,.str z]):=by
 obtain⟨a,vs,m,e,h,hl,hr⟩:=r.Ta
 match vs,hl,hr,h with
 | [u1,u2,u3],_,hr,h=>
  have e1:=(hr 0 u1 _ rfl rfl).Tc
  have e2:=(hr 1 u2 _ rfl rfl).Qg
  have e3:=(hr 2 u3 _ rfl rfl).Tc
  subst e1 e2 e3
  exact⟨a,e,h⟩
theorem Rep.Te{H:Hp}{n:Nat}{v:V}{x z:Int}(r:Rep H n v (.t [.i x,.i z])):∃a,v=.ref a∧H a=some (.tup [.int x,.int z]):=by
 obtain⟨a,vs,m,e,h,hl,hr⟩:=r.Ta
 match vs,hl,hr,h with
 | [u1,u2],_,hr,h=>
  have e1:=(hr 0 u1 _ rfl rfl).Qg
  have e2:=(hr 1 u2 _ rfl rfl).Qg
  subst e1 e2
  exact⟨a,e,h⟩
theorem Gs:W.kitOne K (.type "list") (.type "list")=some true:=aar (by decide)
theorem KW:W.kitOne K (.type "str") (.type "str")=some true:=aar (by decide)
theorem KY:W.kitOne K (.type "tuple") (.type "tuple")=some true:=aar (by decide)
theorem Qh:W.kitOne K (.type "int") (.type "int")=some true:=aar (by decide)
theorem Qi:W.kitOne K (.type "int") (.type "bool")=some false:=by kernel_rfl
def M7:Sp:=fun vs H Q _=>∃i:Int,vs=[.int i]∧Q (.bl true) H
theorem Au(T:Txt mg)(O:Ok K mg A):ij P w K mg base mr 1 A.vI A.vJ ["found"] M7:=by
 refine O.ox.f.qr A5 fun jl A outer s H vs Q E hr h=>?_
 obtain⟨i,rfl,q⟩:=h
 refine⟨_,(fR (hE (Jd (gs jG (by rfl) T.jr aaS (a_ (pv 0) (a_ (nE (v:=.ty "int") (by rfl) T.SA PyProof.Rows.boot_int rfl) d_))) (Jc (OJ (gs jG (by rfl) T.jr aaS (a_ (pv 0) (a_ (nE (v:=.ty "bool") (by rfl) T.Pw PyProof.Rows.boot_bool rfl) d_)))))))),?_⟩
 refine⟨_,rfl,_,_,_,_,rfl,.int i,Qh,_,rfl,kD ?_⟩
 exact⟨_,rfl,_,_,_,_,rfl,.int i,Qi,_,rfl,q⟩
def IB:Sp:=fun vs H Q _=>∃(v:V)(n:Nat)(row:List Ln),vs=[v]∧Rep H n v (S7 row)∧Q (.bl true) H
theorem E9(T:Txt mg)(O:Ok K mg A):ij P w K mg base mr 2 A.rj A.rl ["row"] IB:=by
 have kU:=@Au P w K mg base A T O
 refine O.uc.f.qr pS fun jl A outer s H vs Q E hr h=>?_
 obtain⟨v,n,row,rfl,rp,q⟩:=h
 obtain⟨p,ps,m,rfl,hp,hl,UW⟩:=rp.S_
 refine⟨_,(de (ik (jT (kr (gs jG (by rfl) T.jr aaS (a_ (pv 0) (a_ (nE (v:=.ty "list") (by rfl) T.sj abm rfl) d_))))) (fR (hE j4)) g_)
   (de (il aam rfl (ir (pv 0)) (qY 1 pS) (de (ik ((pw_or (jT (kr (gs jG (by rfl) T.jr aaS (a_ (pv 1) (a_ (nE (v:=.ty "tuple") (by rfl) T.GX PyProof.Rows.boot_tuple rfl) d_))))) (pw_or (ib D8 (gs gk (by rfl) T.iW aah (a_ (pv 1) d_)) gc (ip _)) (pw_or1 (jT (kr (gs jG (by rfl) T.jr aaS (a_ (j5 o9 (pv 1) gc (fun _ _=>rfl)) (a_ (nE (v:=.ty "str") (by rfl) T.NK PyProof.Rows.boot_str rfl) d_)))))))).pt) (fR (hE j4)) g_)
   (fR (ik ((pw_or (jT (kr (o_ O.ox kU hr (a_ (j5 o9 (pv 1) gc (fun _ _=>rfl)) d_)))) (pw_or1 (jT (kr (gs jG (by rfl) T.jr aaS (a_ (j5 o9 (pv 1) gc (fun _ _=>rfl)) (a_ (nE (v:=.ty "str") (by rfl) T.NK PyProof.Rows.boot_str rfl) d_))))))).pt) (fR (hE j4)) g_))))
   (fR (hE j4)))),?_⟩
 refine DO ?_;intro _ _
 refine⟨_,rfl,_,_,_,_,rfl,.lst hp,Gs,_,rfl,i_ ?_⟩
 let Jv:=fun(i:Nat) (σ:St) (H2:Hp)=>∃v,σ=[rr p,v]∧H2=H
 refine⟨_,rfl,p,rfl,⟨_,gH.of hp⟩,iM (K:=K) (a:=p) (xs:=ps) Jv ⟨none,rfl,rfl⟩ (by rintro _ _ _ _ ⟨_,_,e⟩;rw[e];exact gH.of hp) ?_ ?_⟩
 ·rintro i y σ H2 hi ⟨v,rfl,rfl⟩
  have jQ:=(List.getElem?_eq_some_iff.mp hi).1
  rw[hl,TU] at jQ
  have uO:(row.map fun l=>Dv.t [.s l.nm.1,.i l.nm.2,.s l.tx])[i]?=some (.t [.s row[i].nm.1,.i row[i].nm.2,.s row[i].tx]):=by rw[Z4,TZ jQ];rfl
  obtain⟨a,rfl,ha⟩:=(UW i y _ hi uO).Td
  refine⟨_,rfl,_,_,_,_,rfl,.tup ha,KY,_,rfl,i_ ?_⟩
  refine⟨_,rfl,a,_,rfl,.inr (rG.of ha),rfl,_,rfl,xy (by rfl) ?_⟩
  refine⟨_,rfl,a,_,_,_,rfl,rfl,rG.of ha,ic (j:=0) rfl rfl,_,_,_,_,rfl,.str _,KW,_,rfl,i_ ?_⟩
  refine⟨_,rfl,a,_,_,_,rfl,rfl,rG.of ha,ic (j:=1) rfl rfl,_,rfl,_,rfl,i_ ?_⟩
  refine⟨_,rfl,a,_,_,_,rfl,rfl,rG.of ha,ic (j:=2) rfl rfl,_,_,_,_,rfl,.str _,KW,_,rfl,i_ ?_⟩
  exact⟨_,rfl,rfl⟩
 ·rintro σ H2 ⟨v,rfl,rfl⟩
  exact q
def E_:Sp:=fun vs H Q _=>∃(v:V)(n:Nat)(qs:List (Nat×Nat)),vs=[v]∧Rep H n v (quD qs)∧Q (.bl true) H
theorem Bk(T:Txt mg)(O:Ok K mg A):ij P w K mg base mr 2 A.oZ A.o3 ["found"] E_:=by
 have kU:=@Au P w K mg base A T O
 refine O.rq.f.qr om fun jl A outer s H vs Q E hr h=>?_
 obtain⟨v,n,row,rfl,rp,q⟩:=h
 obtain⟨p,ps,m,rfl,hp,hl,UW⟩:=rp.S_
 refine⟨_,(de (ik (jT (kr (gs jG (by rfl) T.jr aaS (a_ (pv 0) (a_ (nE (v:=.ty "list") (by rfl) T.sj abm rfl) d_))))) (fR (hE j4)) g_)
   (de (il aam rfl (ir (pv 0)) (qY 1 om) (fR (ik ((pw_or (jT (kr (gs jG (by rfl) T.jr aaS (a_ (pv 1) (a_ (nE (v:=.ty "tuple") (by rfl) T.GX PyProof.Rows.boot_tuple rfl) d_))))) (pw_or (ib D8 (gs gk (by rfl) T.iW aah (a_ (pv 1) d_)) gc (ip _)) (pw_or (jT (kr (o_ O.ox kU hr (a_ (j5 o9 (pv 1) gc (fun _ _=>rfl)) d_)))) (pw_or1 (jT (kr (o_ O.ox kU hr (a_ (j5 o9 (pv 1) gc (fun _ _=>rfl)) d_)))))))).pt) (fR (hE j4)) g_)))
   (fR (hE j4)))),?_⟩
 refine DO ?_;intro _ _
 refine⟨_,rfl,_,_,_,_,rfl,.lst hp,Gs,_,rfl,i_ ?_⟩
 let Jv:=fun(i:Nat) (σ:St) (H2:Hp)=>∃v,σ=[rr p,v]∧H2=H
 refine⟨_,rfl,p,rfl,⟨_,gH.of hp⟩,iM (K:=K) (a:=p) (xs:=ps) Jv ⟨none,rfl,rfl⟩ (by rintro _ _ _ _ ⟨_,_,e⟩;rw[e];exact gH.of hp) ?_ ?_⟩
 ·rintro i y σ H2 hi ⟨v,rfl,rfl⟩
  have jQ:=(List.getElem?_eq_some_iff.mp hi).1
  rw[hl,TU] at jQ
  have uO:(row.map fun q=>Dv.t [.i q.1,.i q.2])[i]?=some (.t [.i row[i].1,.i row[i].2]):=by rw[Z4,TZ jQ];rfl
  obtain⟨a,rfl,ha⟩:=(UW i y _ hi uO).Te
  refine⟨_,rfl,_,_,_,_,rfl,.tup ha,KY,_,rfl,i_ ?_⟩
  refine⟨_,rfl,a,_,rfl,.inr (rG.of ha),rfl,_,rfl,xy (by rfl) ?_⟩
  refine⟨_,rfl,a,_,_,_,rfl,rfl,rG.of ha,ic (j:=0) rfl rfl,_,rfl,_,rfl,i_ ?_⟩
  refine⟨_,rfl,a,_,_,_,rfl,rfl,rG.of ha,ic (j:=1) rfl rfl,_,rfl,_,rfl,i_ ?_⟩
  exact⟨_,rfl,rfl⟩
 ·rintro σ H2 ⟨v,rfl,rfl⟩
  exact q
noncomputable def pk(i j:Nat):List Key:=[Sum.inl (i:Int),Sum.inl (j:Int)]
theorem Qj{i j i' j':Nat}(h:pk i j=pk i' j'):(i,j)=(i',j'):=by
 unfold pk at h
 injection h with h1 h2
 injection h2 with h2 _
 have a:=Sum.inl.inj h1
 have b:=Sum.inl.inj h2
 have a:i=i':=by omega
 have b:j=j':=by omega
 rw[a,b]
def Rg(H:Hp)(b:Addr)(qs:List (Nat×Nat)):Prop:=∃kvs,H b=some (.dT kvs)∧∀i j:Nat,(iI kvs (pk i j)).isSome=decide ((i,j)∈qs)
theorem Rg.same{H H':Hp}{b:Addr}{qs:List (Nat×Nat)}(h:Rg H b qs)(s:gj H H'):Rg H' b qs:=let ⟨k,h1,h2⟩:=h;⟨k,s _ _ h1,h2⟩
theorem oy{l:List Nat}{i x:Nat}(h:l[i]?=some x):(kZ l)[i]?=some (V.int x):=by unfold kZ;rw[Z4,h];rfl
theorem lX(l:List Nat):(kZ l).length=l.length:=TU _
theorem Av(l:List Nat):kZ l=(l.map fun(i:Nat)=>(i:Int)).map V.int:=by unfold kZ;rw[List.map_map];rfl
theorem NW{zs:List Nat}{m:Int}(h:NS 0 (zs.map fun(i:Nat)=>(i:Int)) m):∃k:Nat,m=(k:Int)∧Mx zs k:=by
 by_cases e:zs=[]
 ·subst e
  exact⟨0,h.1 rfl,fun _=>rfl,fun z=>absurd rfl z⟩
 ·obtain⟨h1,h2⟩:=h.2 fun z=>e (List.map_eq_nil_iff.mp z)
  obtain⟨k,hk,rfl⟩:=List.mem_map.mp h1
  refine⟨k,rfl,fun z=>absurd z e,fun _=>⟨hk,fun x hx=>?_⟩⟩
  have:=h2 _ (XE hx)
  omega
theorem KZ{a:Nat→Nat→Prop}{ps bs:List Nat}{j y v:Nat}(B:LG a (ps.take j) bs)(hy:ps[j]?=some y)(h1:1≤v)(h2:∀i x u,i<j→ps[i]?=some x→bs[i]?=some u→a x y→u+1≤v)
  (h3:v=1∨∃i x u:Nat,i<j∧ps[i]?=some x∧bs[i]?=some u∧a x y∧v=u+1):LG a (ps.take (j+1)) (bs++[v]):=by
 have hj:=(List.getElem?_eq_some_iff.mp hy).1
 have hl:bs.length=j:=by rw[B.len,aay];omega
 have old:∀{i u:Nat},i<j→(bs++[v])[i]?=some u→bs[i]?=some u:=fun{i u} hi h=>by rw[aba (by omega)] at h;exact h
 have new:∀{u:Nat},(bs++[v])[j]?=some u→u=v:=fun{u} h=>by
  rw[aa9 (by omega),hl,acm] at h
  exact(aaA h).symm
 have tk:∀{i x:Nat},i<j+1→(ps.take (j+1))[i]?=some x→ps[i]?=some x:=fun{i x} hi h=>by rw[aa7,aar hi] at h;exact h
 have YY:∀{i x:Nat},i<j→ps[i]?=some x→(ps.take j)[i]?=some x:=fun{i x} hi h=>by rw[aa7,aar hi];exact h
 have lt:∀{i x:Nat},(ps.take (j+1))[i]?=some x→i<j+1:=fun{i x} h=>by have:=(List.getElem?_eq_some_iff.mp h).1;rw[aay] at this;omega
 refine⟨by rw[W4,aay,hl];show j+1=_;omega,fun i k x z u w UX hx hz hu hw ha=>?_,fun k z w hz hw=>?_,fun k w hw=>?_⟩
 ·have hk:=lt hz
  have gx:=tk (by omega) hx
  have gz:=tk hk hz
  have gu:=old (by omega) hu
  by_cases e:k=j
  ·subst e
   rw[hy] at gz
   cases gz
   rw[new hw]
   exact h2 i x u UX gx gu ha
  ·exact B.up i k x z u w UX (YY (by omega) gx) (YY (by omega) gz) gu (old (by omega) hw) ha
 ·have hk:=lt hz
  have gz:=tk hk hz
  by_cases e:k=j
  ·subst e
   rw[hy] at gz
   cases gz
   rw[new hw]
   rcases h3 with h|⟨i,x,u,hi,hx,hu,ha,e⟩
   ·exact .inl h
   ·refine .inr ⟨i,x,u,hi,?_,?_,ha,e⟩
    ·rw[aa7,aar (by omega)];exact hx
    ·rw[aba (by omega)];exact hu
  ·rcases B.is k z w (YY (by omega) gz) (old (by omega) hw) with h|⟨i,x,u,hi,hx,hu,ha,e⟩
   ·exact .inl h
   ·refine .inr ⟨i,x,u,hi,?_,?_,ha,e⟩
    ·rw[aa7,aar (by omega)] at hx ⊢;exact hx
    ·rw[aba (by omega)];exact hu
 ·by_cases e:k<j
  ·exact B.one k w (old e hw)
  ·have hk:=(List.getElem?_eq_some_iff.mp hw).1
   rw[W4,hl] at hk
   have hk:k<j+1:=hk
   have:k=j:=by omega
   subst this
   rw[new hw];exact h1
def Qk:Sp:=fun vs H Q _=>∃(l b:Addr)(ps:List Nat)(qs:List (Nat×Nat))(a:Nat→Nat→Prop),vs=[.ref l,.ref b]∧H l=some (.lst (kZ ps))∧Rg H b qs∧ps.length≤4000∧ps.Pairwise (·<·)∧(∀x∈ps,∀y∈ps,x<y→((x,y)∉qs↔a x y))∧∀m bs H',gj H H'→LG a ps bs→Mx bs m→Q (.int (m:Nat)) H'
theorem M8(T:Txt mg)(O:Ok K mg A):ij P w K mg base mr 1 A.yh A.yi ["places","bad"] Qk:=by
 refine O.wY.f.qr lP fun jl A outer s H vs Q E hr h=>?_
 obtain⟨l,b,ps,qs,a,rfl,hl,bd,h4,hp,ha,q⟩:=h
 have sz:sizeLine=16777216:=aaw
 have el:((kZ ps).length:Int)=(ps.length:Int):=by rw[lX]
 refine⟨_,(de (lq (i:=2) lP.nd rfl (Or.inr rfl) (iO d_))
   (de (il aam rfl (jh rfl T.jj (a_ (gs gk (by rfl) T.iW aah (a_ (pv 0) d_)) d_)) (iw (i:=3) lP.nd rfl (Or.inr rfl)) (de (uk (j:=4) xH (f_ oN).names [5] lP.nd rfl rfl rfl (jh rfl T.jj (a_ (pv 3) d_)) rfl (by decide+kernel) (fun _ _ _ _=>(iw (i:=5) lP.nd rfl (Or.inl rfl))) (fun _ _ _ _=>⟨_,mL (i9 (jX (by exact iG hr) (rM (a_ (pE (pv 0) (pv 5)) (a_ (pE (pv 0) (pv 3)) d_))) (pv 1))),by(try simp only [ku]);rfl⟩) (fun _ _ _ _=>AX (pE (pv 2) (pv 5))))
   (fR (hX (nP aaI aaM aaN jC (pv 2) (a_ (gr iC gc (Di rfl (by rfl) T.GW (a_ (pv 4) d_))) d_))))))
   (fR (hE (Di rfl (by rfl) T.GW (a_ (pv 2) d_)))))),?_⟩
 refine DO ?_;intro _ _
 refine⟨L2.jA,fun r pF=>?_⟩
 have s1:gj H (upd H r (.lst [])):=(gj.refl H).new pF
 refine⟨_,rfl,l,_,rfl,.inl (gH.of (s1 _ _ hl)),_,rfl,by omega,by omega,?_⟩
 rw[el,aa2]
 let Jv:=fun(j:Nat) (σ:St) (H2:Hp)=>∃(v3 v4 v5:Option V)(bs:List Nat),σ=[rr l,rr b,rr r,v3,v4,v5]∧gj H H2∧H2 r=some (.lst (kZ bs))∧LG a (ps.take j) bs
 refine jB Jv ⟨none,none,none,[],rfl,s1,b_,⟨rfl,fun i j x y u v _ h=>(by simp at h),fun j y v h=>(by simp at h),fun j v h=>(by simp at h)⟩⟩ ?_ ?_
 ·rintro j σ H2 hj ⟨v3,v4,v5,bs,rfl,s2,k2,B⟩
  rw[show(0:Int)+(j:Int)=(j:Int) by omega]
  obtain⟨y,hy⟩:∃y,ps[j]?=some y:=⟨_,TZ hj⟩
  have RI:=WI hy
  have IS:bs.length=j:=by rw[B.len,aay];omega
  obtain⟨kvs,Lj,IL⟩:=bd
  refine⟨_,rfl,_,rfl,by omega,by omega,?_⟩
  rw[aa2]
  let Jv:=fun(t:Nat) (ys:List V) (σ:St) (H3:Hp)=>∃(v5:Option V)(zs:List Nat),σ=[rr l,rr b,rr r,ri j,v4,v5]∧gj H2 H3∧ys=kZ zs∧zs.length≤t∧(∀u∈zs,∃i x,i<t∧ps[i]?=some x∧bs[i]?=some u∧a x y)∧∀i x u,i<t→ps[i]?=some x→bs[i]?=some u→a x y→u∈zs
  refine nX (by omega) Jv
   ⟨_,[],rfl,gj.refl _,rfl,WL _,fun u hu=>(by cases hu),fun i x u hi=>(by omega)⟩ (by rintro _ _ _ _ ⟨_,zs,_,_,e,e2,_⟩;rw[e,lX];exact e2) ?_ ?_
  ·rintro t ys σ H3 ht ⟨v5,zs,rfl,s3,rfl,VY,Lc,VZ⟩
   rw[show(0:Int)+(t:Int)=(t:Int) by omega]
   have IP:=s2.trans s3
   obtain⟨x,hx⟩:∃x,ps[t]?=some x:=⟨_,TZ (by omega)⟩
   obtain⟨u,hu⟩:∃u,bs[t]?=some u:=⟨_,TZ (by omega)⟩
   have Ob:=WI hx
   have Lv:x<y:=by
    have g1:=List.getElem?_eq_some_iff.mp hx
    have g2:=List.getElem?_eq_some_iff.mp hy
    have:=aaJ.mp hp t j g1.1 g2.1 ht
    rw[g1.2,g2.2] at this
    exact this
   refine⟨_,rfl,_,rfl,l,_,_,_,rfl,rfl,gH.of (IP _ _ hl),ic rfl (oy hx),_,rfl,_,rfl,l,_,_,_,rfl,rfl,gH.of (IP _ _ hl),ic rfl (oy hy),L2.jA,fun tp LM=>?_⟩
   have s4:gj H3 (upd H3 tp (.tup [.int x,.int y])):=(gj.refl H3).new LM
   have u4:(upd H3 tp (.tup [.int x,.int y])) tp=some (.tup ((pk x y).map kV)):=b_
   generalize upd H3 tp (.tup [.int x,.int y])=H4 at s4 u4
   refine⟨_,rfl,b,_,rfl,iZ.t (k:=pk x y) (s4 _ _ (IP _ _ Lj)) u4,_,rfl,?_⟩
   rw[IL x y]
   by_cases hc:(x,y)∈qs
   ·rw[WM hc]
    have hna:¬a x y:=fun z=>(ha x Ob y RI Lv).mpr z hc
    refine i_ ⟨_,zs,rfl,s3.trans s4,rfl,by omega,fun u hu=>?_,fun i x' u' hi Lo DU Qv=>?_⟩
    ·obtain⟨i,x',h1,h2⟩:=Lc u hu
     exact⟨i,x',by omega,h2⟩
    ·by_cases e:i=t
     ·subst e
      rw[hx] at Lo
      cases Lo
      exact absurd Qv hna
     ·exact VZ i x' u' (by omega) Lo DU Qv
   ·rw[Z6 hc]
    have hya:a x y:=(ha x Ob y RI Lv).mp hc
    refine kD ⟨_,rfl,_,rfl,r,_,_,_,rfl,rfl,gH.of (s4 _ _ (s3 _ _ k2)),ic rfl (oy hu),?_⟩
    refine⟨_,zs++[u],rfl,s3.trans s4,qg _ _,by rw[W4];exact Nat.succ_le_succ VY,fun u' DU=>?_,fun i x' u' hi Lo DU Qv=>?_⟩
    ·rcases Z3.mp DU with DU|DU
     ·obtain⟨i,x',h1,h2⟩:=Lc u' DU
      exact⟨i,x',by omega,h2⟩
     ·rw[WG.mp DU]
      exact⟨t,x,by omega,hx,hu,hya⟩
    ·by_cases e:i=t
     ·subst e
      rw[hu] at DU
      cases DU
      simp
     ·exact aas _ (VZ i x' u' (by omega) Lo DU Qv)
  ·rintro ys σ H3 ⟨v5',zs,rfl,s3,rfl,VY,Lc,VZ⟩ ft hft
   have s4:=(gj.refl H3).new (o:=.lst (kZ zs)) hft
   have u4:(upd H3 ft (.lst (kZ zs))) ft=some (.lst (kZ zs)):=b_
   generalize upd H3 ft (.lst (kZ zs))=H4 at s4 u4
   have Ox:=s3.trans s4
   refine⟨_,rfl,.inl ⟨rfl,_,gH.of (Ox _ _ k2)⟩,_,rfl,ft,_,rfl,gH.of (by rw[←Av];exact u4),fun mm YZ=>?_⟩
   obtain⟨m,rfl,M⟩:=NW YZ
   refine⟨_,_,rfl,rfl,r,_,_,rfl,rfl,Ox _ _ k2,by rw[lX];omega,?_⟩
   refine⟨_,_,_,bs++[m+1],rfl,(s2.trans Ox).upd pF,?_,KZ B hy (by omega) (fun i x u hi hx hu hxa=>?_) ?_⟩
   ·dsimp only
    rw[b_,←qg,show(1:Int)+(m:Int)=((m+1:Nat):Int) by omega]
   ·have hm:=VZ i x u hi hx hu hxa
    have:=(M.2 (List.ne_nil_of_mem hm)).2 u hm
    omega
   ·by_cases e:zs=[]
    ·exact .inl (by rw[M.1 e])
    ·obtain⟨h1,_⟩:=M.2 e
     obtain⟨i,x,h2,h3,h4,h5⟩:=Lc m h1
     exact .inr ⟨i,x,m,h2,h3,h4,h5,rfl⟩
 ·rintro σ H2 ⟨v3,v4,v5,bs,rfl,s2,k2,B⟩
  rw[aaq] at B
  refine⟨_,rfl,r,_,rfl,gH.of (by rw[←Av];exact k2),fun mm YZ=>?_⟩
  obtain⟨m,rfl,M⟩:=NW YZ
  exact q m bs H2 s2 B M
theorem M9(l:List Nat)(k:Nat):tJ (kZ l) none (some (k:Int))=kZ (l.take k):=by
 unfold tJ
 rw[HT.zd,HT.Ce,Nat.sub_zero,List.drop_zero]
 unfold kZ
 rw[TU,←List.map_take]
 congr 1
 by_cases h:k≤l.length
 ·rw[Nat.min_eq_left h]
 ·rw[Nat.min_eq_right (by omega),abR (WL _),abR (by omega)]
def M_:Sp:=fun vs H Q _=>∃(fl b:Addr)(n L:Nat)(l:List Nat)(qs:List (Nat×Nat))(a:Nat→Nat→Prop)(c:Nat→Nat),vs=[.ref fl,.int n,.ref b]∧H fl=some (.lst (kZ l))∧Rg H b qs∧n≤4000∧(∀i j,(i,j)∈qs↔i<j∧j<n∧¬a i j)∧Rf a n∧Iy a n c∧(∀i,i<n→c i≤L)∧St a n c none L l∧∀H',gj H H'→Q (.bl true) H'
theorem Bl(T:Txt mg)(O:Ok K mg A):ij P w K mg base mr 2 A.o4 A.o5 ["found","count","bad"] M_:=by
 have kU:=@Au P w K mg base A T O
 have yq:=@M8 P w K mg base A T O
 refine O.rA.f.qr ix fun jl A outer s H vs Q E hr h=>?_
 obtain⟨fl,b,n,L,l,qs,a,c,rfl,hl,bd,h4,hq,tr,C,hL,hS,q⟩:=h
 have sz:sizeLine=16777216:=aaw
 have el:((kZ l).length:Int)=(l.length:Int):=by rw[lX]
 have hlen:=hS.len
 have rF:=hS.mem
 have DP:=(hS.chain tr).1
 have Y0:=hS.gap
 have Oy:∀{i j x y:Nat},i<j→l[i]?=some x→l[j]?=some y→x<y∧a x y:=fun{i j x y} DR hx hy=>by
  have g1:=List.getElem?_eq_some_iff.mp hx
  have g2:=List.getElem?_eq_some_iff.mp hy
  have:=aaJ.mp DP i j g1.1 g2.1 DR
  rw[g1.2,g2.2] at this
  exact this
 have uO:l.length≤n:=by
  have h1:l.Pairwise (·<·):=DP.imp fun h=>h.1
  have:=zG (xs:=l) (ys:=List.range n) (h1.imp fun h e=>by omega) fun x hx=>aaX.mpr (rF x hx)
  rwa [aaR] at this
 have Lw:∀x y,x<y→y<n→((x,y)∉qs↔a x y):=fun x y h1 h2=>by
  rw[hq]
  exact⟨fun z=>Classical.byContradiction fun w=>z ⟨h1,h2,w⟩,fun z w=>w.2.2 z⟩
 obtain⟨kvs,Lj,IL⟩:=id bd
 refine⟨_,(de (ik ((pw_or (jT (kr (gs jG (by rfl) T.jr aaS (a_ (pv 0) (a_ (nE (v:=.ty "list") (by rfl) T.sj abm rfl) d_))))) (pw_or1 (ib D8 (gs gk (by rfl) T.iW aah (a_ (pv 0) d_)) (o_ O.wY yq hr (a_ (pK (Bj rfl) (by rfl) T.sj abm (a_ (pK Cr (by rfl) T.jj PyProof.Rows.boot_range (a_ (pv 1) d_)) d_)) (a_ (pv 2) d_))) (ip _)))).pt) (fR (hE j4)) g_)
   (de (il aam rfl (jh rfl T.jj (a_ (gs gk (by rfl) T.iW aah (a_ (pv 0) d_)) d_)) (qY 3 ix) (de (qo (ik ((pw_or (jT (kr (o_ O.ox kU hr (a_ (pE (pv 0) (pv 3)) d_)))) (pw_or (jT (y_ D_ D9 gc (pE (pv 0) (pv 3)) (pv 1))) (pw_or1 ((pw_and (ib y9 (pv 3) gc (ip _)) (pw_and1 (ib D_ (pE (pv 0) (pv 3)) (pE (pv 0) (gr o8 (pv 3) gc)) (ip _)))).pt)))).pt) (fR (hE j4)) g_))
   (fR (il aam rfl (ir (lC nH (pv 0) nF (nG (pv 3)))) (qY 4 ix) (fR (ik (i9 (nR (by exact iG hr) (rM (a_ (pv 4) (a_ (pE (pv 0) (pv 3)) d_))) (pv 2))) (fR (hE j4)) g_))))))
   (de (il aam rfl (jh rfl T.jj (a_ (gs gk (by rfl) T.iW aah (a_ (pv 0) d_)) d_)) (qY 3 ix) (de (kW 5 ix gc)
   (de (qo (ik (ib y9 (pv 3) gc (ip _)) (fR (kW 5 ix (gr iC (pE (pv 0) (gr o8 (pv 3) gc)) gc))) g_))
   (fR (il aam rfl (pJ rfl T.jj (a_ (pv 5) (a_ (pE (pv 0) (pv 3)) d_))) (iw (i:=6) ix.nd rfl (Or.inr rfl)) (fR (ik (FR ((pw_or (ib l4 (pv 3) gc (ip _)) (pw_or1 (i9 (jX (by exact iG hr) (rM (a_ (pE (pv 0) (gr o8 (pv 3) gc)) (a_ (pv 6) d_))) (pv 2))))).pt)) (de (uk (j:=7) oQ (f_ ky).names [8] ix.nd rfl rfl rfl (pJ rfl T.jj (a_ (pv 6) (a_ (pv 1) d_))) rfl (by decide+kernel) (fun _ _ _ _=>(iw (i:=8) ix.nd rfl (Or.inl rfl))) (fun _ _ _ _=>⟨_,mL (i9 (jX (by exact iG hr) (rM (a_ (pv 6) (a_ (pv 8) d_))) (pv 2))),by(try simp only [ku]);rfl⟩) (fun _ _ _ _=>AX (pv 8)))
   (fR (ik (ib Ji (o_ O.wY yq hr (a_ (pv 7) (a_ (pv 2) d_))) (gr o8 (gs gk (by rfl) T.iW aah (a_ (pv 0) d_)) (pv 3)) (ip _)) (fR (hE j4)) g_))) g_)))))))
   (fR (hE j4))))),?_⟩
 refine NJ ?_;intro _ _ _
 refine⟨_,rfl,_,_,_,_,rfl,.lst hl,Gs,_,rfl,i_ ?_⟩
 refine⟨_,rfl,fl,_,rfl,.inl (gH.of hl),_,rfl,n,rfl,fun rp UW=>?_⟩
 have s1:=(gj.refl H).new (o:=.IZ 0 n) UW
 refine⟨rp,n,rfl,b_,h4,fun lp T4=>?_⟩
 have s2:=s1.new (o:=.lst ((List.range n).map fun(i:Nat)=>V.int i)) T4
 have u2:(upd (upd H rp (.IZ 0 n)) lp (.lst ((List.range n).map fun(i:Nat)=>V.int i))) lp=some (.lst (kZ (List.range n))):=b_
 generalize upd (upd H rp (.IZ 0 n)) lp (.lst ((List.range n).map fun(i:Nat)=>V.int i))=H2 at s2 u2
 refine⟨_,rfl,lp,b,List.range n,qs,a,rfl,u2,bd.same s2,by rw[aaR];exact h4,List.pairwise_lt_range,fun x hx y hy Lv=>Lw x y Lv (aaX.mp hy),fun m bs H3 Om B M=>?_⟩
 have s3:=s2.trans Om
 have hm:m=L:=KO B tr M C hL hS
 refine⟨rfl,_,rfl,xy (by rw[el,hm,hlen];simp) ?_⟩
 refine⟨_,rfl,fl,_,rfl,.inl (gH.of (s3 _ _ hl)),_,rfl,by omega,by omega,?_⟩
 rw[el,aa2]
 let Jv:=fun(k:Nat) (σ:St) (H4:Hp)=>∃(v3 v4:Option V),σ=[rr fl,ri n,rr b,v3,v4,none,none,none,none]∧gj H H4
 refine jB Jv ⟨none,none,rfl,s3⟩ ?_ ?_
 ·rintro k σ H4 hk ⟨v3,v4,rfl,s4⟩
  rw[show(0:Int)+(k:Int)=(k:Int) by omega]
  obtain⟨x,hx⟩:∃x,l[k]?=some x:=⟨_,TZ hk⟩
  have IW:=rF x (WI hx)
  have UY:=s4 _ _ hl
  refine⟨fun σ H5=>σ=[rr fl,ri n,rr b,ri k,v4,none,none,none,none]∧H5=H4,?_,?_⟩
  ·refine⟨_,rfl,_,rfl,fl,_,_,_,rfl,rfl,gH.of UY,ic rfl (oy hx),_,rfl,_,rfl,i_ ?_⟩
   refine⟨_,rfl,_,rfl,fl,_,_,_,rfl,rfl,gH.of UY,ic rfl (oy hx),_,_,rfl,rfl,_,rfl,GR (WM (by omega)) ?_⟩
   refine⟨_,rfl,_,_,rfl,rfl,_,rfl,xy (by rw[WM (by omega)];rfl) ?_⟩
   refine⟨_,rfl,_,_,rfl,rfl,_,rfl,?_⟩
   refine kF (fun h0=>?_) (fun h0=>i_ ⟨rfl,rfl⟩)
   have h0:0<k:=by have:=aak h0;omega
   obtain⟨z,hz⟩:∃z,l[k-1]?=some z:=⟨_,TZ (by omega)⟩
   have hzx:=Oy (show k-1<k by omega) hz hx
   exact⟨_,rfl,_,rfl,fl,_,_,_,rfl,rfl,gH.of UY,ic rfl (oy hx),_,rfl,_,rfl,_,_,rfl,rfl,fl,_,_,_,rfl,rfl,gH.of UY,ic (j:=k-1) (by omega) (oy hz),_,_,rfl,rfl,_,rfl,xy (Z6 (by omega)) ⟨rfl,rfl⟩⟩
  rintro σ H5 ⟨rfl,rfl⟩
  refine⟨_,rfl,_,rfl,_,rfl,fl,_,rfl,gH.of UY,fun sl K9=>?_⟩
  rw[M9]
  have s6:=s4.new (o:=.lst (kZ (l.take k))) K9
  have u6:(upd H5 sl (.lst (kZ (l.take k)))) sl=some (.lst (kZ (l.take k))):=b_
  generalize upd H5 sl (.lst (kZ (l.take k)))=H6 at s6 u6
  let Jv:=fun(i:Nat) (σ:St) (H7:Hp)=>∃(v4:Option V),σ=[rr fl,ri n,rr b,ri k,v4,none,none,none,none]∧gj H H7∧H7 sl=some (.lst (kZ (l.take k)))
  refine⟨sl,rfl,⟨_,gH.of u6⟩,iM (K:=K) (a:=sl) (xs:=kZ (l.take k)) Jv ⟨v4,rfl,s6,u6⟩ (by rintro _ _ _ _ ⟨_,_,_,e⟩;exact gH.of e) ?_ ?_⟩
  ·rintro i v σ H7 hv ⟨v4,rfl,s7,u7⟩
   unfold kZ at hv
   rw[Z4] at hv
   obtain⟨y,hy,rfl⟩:=Option.map_eq_some_iff.mp hv
   have UX:i<k:=by have:=(List.getElem?_eq_some_iff.mp hy).1;rw[aay] at this;omega
   rw[aa7,aar UX] at hy
   have hyx:=Oy UX hy hx
   refine⟨_,rfl,_,rfl,_,rfl,fl,_,_,_,rfl,rfl,gH.of (s7 _ _ hl),ic rfl (oy hx),L2.jA,fun tp LM=>?_⟩
   have s8:=s7.new (o:=.tup [.int y,.int x]) LM
   have u8:(upd H7 tp (.tup [.int y,.int x])) tp=some (.tup ((pk y x).map kV)):=b_
   have u8':=ie (u:=.tup [.int y,.int x]) LM u7
   generalize upd H7 tp (.tup [.int y,.int x])=H8 at s8 u8 u8'
   refine⟨_,rfl,b,_,rfl,iZ.t (k:=pk y x) (s8 _ _ Lj) u8,_,rfl,xy (by rw[IL,Z6 ((Lw y x hyx.1 IW).mpr hyx.2)]) ?_⟩
   exact⟨_,rfl,s8,u8'⟩
  ·rintro σ H7 ⟨v4,rfl,s7,u7⟩
   exact⟨_,_,rfl,s7⟩
 rintro σ H4 ⟨v3,v4,rfl,s4⟩
 refine⟨_,rfl,fl,_,rfl,.inl (gH.of (s4 _ _ hl)),_,rfl,by omega,by omega,?_⟩
 rw[el,aa2]
 let Jv:=fun(k:Nat) (σ:St) (H5:Hp)=>∃(v3 v5 v6 v7 v8:Option V),σ=[rr fl,ri n,rr b,v3,v4,v5,v6,v7,v8]∧gj H H5
 refine jB Jv ⟨v3,none,none,none,none,rfl,s4⟩ ?_ ?_
 ·rintro k σ H5 hk ⟨v3,v5,v6,v7,v8,rfl,s5⟩
  rw[show(0:Int)+(k:Int)=(k:Int) by omega]
  obtain⟨x,hx⟩:∃x,l[k]?=some x:=⟨_,TZ hk⟩
  have IW:=rF x (WI hx)
  have T2:=s5 _ _ hl
  refine⟨fun σ H6=>∃f0:Nat,σ=[rr fl,ri n,rr b,ri k,v4,ri f0,v6,v7,v8]∧H6=H5∧f0≤n∧∀z,0<k→l[k-1]?=some z→f0=z+1,?_,?_⟩
  ·refine⟨_,rfl,_,_,rfl,rfl,_,rfl,kF (fun h0=>?_) (fun h0=>?_)⟩
   ·have h0:0<k:=by have:=aak h0;omega
    obtain⟨z,hz⟩:∃z,l[k-1]?=some z:=⟨_,TZ (by omega)⟩
    refine⟨_,rfl,_,rfl,_,_,rfl,rfl,fl,_,_,_,rfl,rfl,gH.of T2,ic (j:=k-1) (by omega) (oy hz),_,_,rfl,rfl,z+1,rfl,rfl,rF z (WI hz),fun z' _ VX=>?_⟩
    rw[hz] at VX
    cases VX
    rfl
   ·exact⟨0,rfl,rfl,aaz _,fun z h _=>absurd (WM (by omega)) h0⟩
  rintro σ H6 ⟨f0,rfl,rfl,Na,RF⟩
  refine⟨_,rfl,_,rfl,_,rfl,fl,_,_,_,rfl,rfl,gH.of T2,ic rfl (oy hx),_,_,rfl,⟨by omega,by omega,by omega,by omega⟩,?_⟩
  rw[show((x:Int)-(f0:Int)).toNat=x-f0 by omega]
  let Jv:=fun(t:Nat) (σ:St) (H7:Hp)=>∃(v6 v7 v8:Option V),σ=[rr fl,ri n,rr b,ri k,v4,ri f0,v6,v7,v8]∧gj H H7
  refine jB Jv ⟨v6,v7,v8,rfl,s5⟩ ?_ ?_
  ·rintro t σ H7 ht ⟨v6,v7,v8,rfl,s7⟩
   obtain⟨e,he⟩:∃e:Nat,e=f0+t:=⟨_,rfl⟩
   rw[show(f0:Int)+(t:Int)=(e:Int) by omega]
   have hex:e<x:=by omega
   have hen:e<n:=by omega
   refine⟨fun bb H8=>gj H7 H8∧(bb=true→k≠0→∃z,l[k-1]?=some z∧z<e∧a z e),?_,?_⟩
   ·refine⟨_,rfl,rfl,_,rfl,kF (fun h0=>?_) (fun h0=>?_)⟩
    ·have h0:k=0:=by have:=V.int.inj (aak h0);omega
     exact⟨gj.refl _,fun _ hk=>absurd h0 hk⟩
    ·have h0:0<k:=by
      rcases Nat.eq_zero_or_pos k with z|z
      ·exact absurd (WM (by rw[z];rfl)) h0
      ·exact z
     obtain⟨z,hz⟩:∃z,l[k-1]?=some z:=⟨_,TZ (by omega)⟩
     have hf:=RF z h0 hz
     refine⟨_,rfl,_,rfl,_,_,rfl,rfl,fl,_,_,_,rfl,rfl,gH.of (s7 _ _ hl),ic (j:=k-1) (by omega) (oy hz),_,rfl,L2.jA,fun tp LM=>?_⟩
     have s8:=(gj.refl H7).new (o:=.tup [.int z,.int e]) LM
     have u8:(upd H7 tp (.tup [.int z,.int e])) tp=some (.tup ((pk z e).map kV)):=b_
     generalize upd H7 tp (.tup [.int z,.int e])=H8 at s8 u8
     refine⟨_,rfl,b,_,rfl,iZ.t (k:=pk z e) (s8 _ _ (s7 _ _ Lj)) u8,_,rfl,s8,fun Rj _=>⟨z,hz,by omega,?_⟩⟩
     rw[IL] at Rj
     exact(Lw z e (by omega) hen).mp (by simpa using Rj)
   rintro bb H8 ⟨s78,Rj⟩
   have s8:=s7.trans s78
   cases bb with
   | false=>exact i_ ⟨_,_,_,rfl,s8⟩
   | true=>
    refine kD ?_
    have Oq:c e+k<L:=Y0 k x hx e (by
     by_cases z:k=0
     ·rw[aar z];exact⟨fun q hq=>(by cases hq),fun q hq=>(by cases hq)⟩
     ·rw[aap z];exact Rj rfl z) hex
    refine⟨_,rfl,_,rfl,_,_,rfl,⟨by omega,by omega,by omega,by omega⟩,?_⟩
    rw[show((n:Int)-(e:Int)).toNat=n-e by omega]
    let Jv:=fun(i:Nat) (ys:List V) (σ:St) (H9:Hp)=>∃(v8:Option V),σ=[rr fl,ri n,rr b,ri k,v4,ri f0,ri e,v7,v8]∧gj H H9∧ys=kZ ((List.range' e i).filter fun o=>decide ((e,o)∉qs))
    refine nX (by omega) Jv
     ⟨_,rfl,s8,rfl⟩ (by rintro _ _ _ _ ⟨_,_,_,e'⟩;rw[e',lX];exact XI (aaE _ _) (by rw[List.length_range'];exact WL _)) ?_ ?_
    ·rintro i ys σ H9 hi ⟨v8,rfl,s9,rfl⟩
     rw[show(e:Int)+(i:Int)=((e+i:Nat):Int) by omega]
     refine⟨_,rfl,_,rfl,L2.jA,fun tp LM=>?_⟩
     have DT:=s9.new (o:=.tup [.int e,.int (e+i:Nat)]) LM
     have Oz:(upd H9 tp (.tup [.int e,.int (e+i:Nat)])) tp=some (.tup ((pk e (e+i)).map kV)):=b_
     generalize upd H9 tp (.tup [.int e,.int (e+i:Nat)])=Oj at DT Oz
     refine⟨_,rfl,b,_,rfl,iZ.t (k:=pk e (e+i)) (DT _ _ Lj) Oz,_,rfl,?_⟩
     rw[IL]
     have er:List.range' e (i+1)=List.range' e i++[e+i]:=by rw[←List.range'_append_1 (s:=e) (m:=i) (n:=1)];rfl
     by_cases hc:(e,e+i)∈qs
     ·rw[WM hc]
      refine i_ ⟨_,rfl,DT,?_⟩
      rw[er,aaB,aad (by simpa using hc),aaP,aaK]
     ·rw[Z6 hc]
      refine kD ⟨_,rfl,_,rfl,DT,?_⟩
      rw[er,aaB,aaa (by simpa using hc),aaP]
      exact qg _ _
    rintro ys σ H9 ⟨v8',rfl,s9,rfl⟩ bh hbh
    have V0:∀y∈(List.range' e (n-e)).filter (fun o=>decide ((e,o)∉qs)),y<n∧(y=e∨e<y∧a e y):=fun y hy=>by
     obtain⟨h1,h2⟩:=aao.mp hy
     obtain⟨d,hd,rfl⟩:=List.mem_range'.mp h1
     refine⟨by omega,?_⟩
     rcases Nat.eq_zero_or_pos d with z|z
     ·exact .inl (by rw[z];rfl)
     ·exact .inr ⟨by omega,(Lw e _ (by omega) (by omega)).mp (aak h2)⟩
    have Rq:((List.range' e (n-e)).filter fun o=>decide ((e,o)∉qs)).Pairwise (·<·):=(List.pairwise_lt_range' ..).sublist aaO
    have IS:((List.range' e (n-e)).filter fun o=>decide ((e,o)∉qs)).length≤4000:=XI (aaE _ _) (by rw[List.length_range'];omega)
    generalize (List.range' e (n-e)).filter (fun o=>decide ((e,o)∉qs))=zs at V0 Rq IS
    have DT:=s9.new (o:=.lst (kZ zs)) hbh
    have Oz:(upd H9 bh (.lst (kZ zs))) bh=some (.lst (kZ zs)):=b_
    generalize upd H9 bh (.lst (kZ zs))=Oj at DT Oz
    refine⟨_,rfl,_,rfl,bh,b,zs,qs,a,rfl,Oz,bd.same DT,IS,Rq,fun x hx y hy Lv=>Lw x y Lv (V0 y hy).1,fun m bs YR s11 B M=>?_⟩
    have Dq:=DT.trans s11
    have hmc:m≤c e:=M3 B tr (fun x hx=>(V0 x hx).1) Rq M C hen fun x hx=>(V0 x hx).2
    refine⟨_,rfl,fl,_,rfl,.inl (gH.of (Dq _ _ hl)),_,rfl,_,_,rfl,rfl,_,_,rfl,rfl,_,rfl,xy (Z6 (by rw[el,hlen];omega)) ?_⟩
    exact⟨_,_,_,rfl,Dq⟩
  ·rintro σ H7 ⟨v6,v7,v8,rfl,s7⟩
   exact⟨_,_,_,_,_,rfl,s7⟩
 ·rintro σ H5 ⟨v3,v5,v6,v7,v8,rfl,s5⟩
  exact q H5 s5
open Kp (lW iV)
theorem sU.K0{A:Ad}{H H':Hp}{d a:Addr}{D:Dk}{W:Addr→Prop}{row:List Ln}(X:iq A H d D W)(s:o7 W H H')(r:sU H a row):sU H' a row:=by
 obtain⟨vs,h,p⟩:=r
 exact⟨vs,s _ _ h (X.lst h),Paired.kC p fun v l ⟨t,e,h⟩=>⟨t,e,s _ _ h (X.tup h)⟩⟩
theorem Hd(x:Nat)(l:List Nat):Q7 (.int x) (kZ l)=decide (x∈l):=by
 unfold Q7 kZ
 rw[abF,List.any_map,List.any_eq_true,abx]
 constructor
 ·rintro⟨y,hy,e⟩
  have e:((y:Int) ==(x:Int))=true:=e
  have e:=eq_of_beq e
  have:y=x:=by omega
  rw[←this];exact hy
 ·exact fun h=>⟨x,h,by show((x:Int) ==(x:Int))=true;exact beq_self_eq_true _⟩
theorem K1(l:List Nat):(kZ l).all l5=true:=by
 unfold kZ
 rw[List.all_map,abL]
 intro x _
 rfl
theorem Fb{n:Nat}:∀(l:List Nat)(p:Nat),l.Pairwise (·<·)→(∀x∈l,p≤x∧x<n)→LF n p (l.map fun(i:Nat)=>(i:Int))
 | [],_,_,_=>trivial
 | x::r,p,h,hm=>by
  have h1:=List.pairwise_cons.mp h
  have h2:=hm x aal
  refine⟨⟨by show(p:Int)≤(x:Int);omega,by show(x:Int)<(n:Int);omega⟩,?_⟩
  have:=Fb r (x+1) h1.2 fun y hy=>⟨h1.1 y hy,(hm y (aae _ hy)).2⟩
  exact this
theorem He{H:Hp}{a:Addr}{n:Nat}{l:List Nat}(h:H a=some (.lst (kZ l))):Rep H (n+1) (.ref a) (.l (l.map fun(i:Nat)=>Dv.i i)):=by
 refine .l h (by rw[lX,TU]) fun j u d hu hd=>?_
 unfold kZ at hu
 rw[Z4] at hu hd
 obtain⟨x,hx,rfl⟩:=Option.map_eq_some_iff.mp hu
 rw[hx] at hd
 cases hd
 exact .i
theorem tH{H:Hp}{a:Addr}{n:Nat}(h:H a=some (.lst [])):Rep H (n+1) (.ref a) (.l []):=.l h rfl fun j u d hu _=>by simp at hu
structure Tk(D D':Dk):Prop where
 inv:Inv D'
 made:D'.made=D.made
 stores:D'.stores=D.stores
theorem Tk.take{D D':Dk}(t:Tk D D'){s x:Str}(hs:s∈D.stores)(hx:x∈D'.names):Tk D (D'.take s x):=⟨t.inv.take (by rw[t.stores];exact hs) hx,t.made,t.stores⟩
theorem Tk.names{D D':Dk}(t:Tk D D'):D'.names=D.names:=by unfold Dk.names;rw[t.made]
theorem IC{D:Dk}{s x c y:Str}(h:y∈D.held c):y∈(D.take s x).held c:=by
 show y∈(if c=s then D.held s++D.n6 s x else D.held c)
 by_cases e:c=s
 ·rw[aar e];exact aas _ (e▸h)
 ·rw[aap e];exact h
def Hf(K:Qqy):Sp:=fun vs H Q _=>∃(a:Addr)(ns:List Int),vs=[.ref a]∧gH K H a (ns.map V.int)∧ns.length≤63∧∀H',Q (.bl true) H'
theorem Ql{f:Addr}{fd:FuncData}(F:xv K "law" "law" Ey f fd)(T:Txt mg)(O:Ok K mg A):ij P w K mg base mr 20 f fd ["script"] (Hf K):=by
 have Fl:=@M0 P w K mg base A T O
 have iQ:=@G9 P w K mg base A T O
 have mJ:=@G_ P w K mg base A T O
 have yK:=@E9 P w K mg base A T O
 have wd:=@Bk P w K mg base A T O
 have we:=@Bl P w K mg base A T O
 have jR:=(@Gf P w K mg base A T O).FJ
 have sX:=(@G5 P w K mg base A T O).FJ
 have qQ:=(@KA P w K mg base A T O).FJ
 have ll:=(@ym P w K mg base A T O).FJ
 have yr:=(@M6 P w K mg base A T O).FJ
 have uF:=(@KH P w K mg base A T O).FJ
 refine F.qr kY fun jl A0 outer s H vs Q E hr h=>?_
 obtain⟨a,ns,rfl,ha,hn,q⟩:=h
 have sz:sizeLine=16777216:=aaw
 refine⟨_,(de (kW 1 kY (o_ O.BV Fl hr (a_ (pv 0) (a_ gc (a_ (gr iN (o_ O.jc iQ hr (a_ (pv 0) (a_ gc d_))) gc) (a_ j4 d_))))))
   (de (kW 2 kY (pE (pv 1) gc))
   (de (kW 3 kY (pE (pE (pv 1) gc) (gr iN (o_ O.jc iQ hr (a_ (pv 0) (a_ gc d_))) gc)))
   (de (il aam rfl (ir (pE (pv 1) gc)) (qY 4 kY) (fR (il aam rfl (ir (uZ (pv 2) O.gF O.lU jR hr (a_ (pv 4) d_))) (qY 5 kY) (fR (hX (uZ (pv 2) O.gF O.wV sX hr (a_ (pv 3) (a_ (pv 4) (a_ (pv 5) d_)))))))))
   (de (kW 6 kY (pE (pE (pv 1) gc) (gr iN (o_ O.jc iQ hr (a_ (pv 0) (a_ gc d_))) gc)))
   (de (lq (i:=7) kY.nd rfl (Or.inr rfl) (uZ (pv 2) O.gF O.vM qQ hr (a_ (pv 3) (a_ (pv 6) d_))))
   (de (kW 8 kY (uZ (pv 2) O.gF O.mz ll hr (a_ (pv 3) (a_ (pv 6) d_))))
   (de (kW 9 kY (uZ (pv 2) O.gF O.wW yr hr (a_ (pv 3) (a_ (pv 6) d_))))
   (de (ik ((pw_or (jT (kr (o_ O.uc yK hr (a_ (pv 7) d_)))) (pw_or1 (jT (kr (o_ O.rq wd hr (a_ (pv 8) d_)))))).pt) (fR (hE j4)) g_)
   (de (kW 10 kY lD)
   (de (il aam rfl (ir (pv 8)) (qY 11 kY) (fR (jn (by exact iG hr) (pv 10) (pv 11) j4 rfl)))
   (de (ik (jT (kr (o_ O.rA we hr (a_ (pv 9) (a_ (gs gk (by rfl) T.iW aah (a_ (pv 7) d_)) (a_ (pv 10) d_)))))) (fR (hE j4)) g_)
   (de (lq (i:=12) kY.nd rfl (Or.inr rfl) (pK uY (by rfl) T.sj abm (a_ (pv 9) d_)))
   (de (hX (nP aaI aaM aaN jC (pv 9) (a_ (gs gk (by rfl) T.iW aah (a_ (pv 7) d_)) d_)))
   (de (ik (ib (O9 3 (by exact Q_ hr)) (uZ (pv 2) O.gF O.wW yr hr (a_ (pv 3) (a_ (pv 6) d_))) (pv 12) (ip _)) (fR (hE j4)) g_)
   (de (uk (j:=13) Kd (f_ Ey).names [14] kY.nd rfl rfl rfl (jh rfl T.jj (a_ (gs gk (by rfl) T.iW aah (a_ (pv 7) d_)) d_)) rfl (by decide+kernel) (fun _ _ _ _=>(iw (i:=14) kY.nd rfl (Or.inl rfl))) (fun _ _ _ _=>⟨_,mL (ib Cj (pv 14) (pv 12) rfl),by(try simp only [ku]);rfl⟩) (fun _ _ _ _=>AX (pv 14)))
   (de (ik (ib (zu 3 (by exact Q_ hr)) (pv 13) (iO d_) (ip _)) (fR (hE (Cd (zu 3 (by exact Q_ hr)) (pv 8) (iO d_) (ip _)))) g_)
   (de (hX (uZ (pv 2) O.gF O.z8 uF hr (a_ (pv 3) (a_ (o_ O.p_ mJ hr (a_ (gr iN (o_ O.jc iQ hr (a_ (pv 0) (a_ gc d_))) gc) (a_ gc d_))) (a_ (pv 6) (a_ (pv 13) d_))))))
   (fR (hE (Jd (Cd (zu 3 (by exact Q_ hr)) (uZ (pv 2) O.gF O.vM qQ hr (a_ (pv 3) (a_ (pv 6) d_))) (xx Kd (f_ Ey).names [14] rfl (ir (pv 12)) rfl (by decide+kernel) (fun _ _ _ _=>(iw (i:=14) kY.nd rfl (Or.inl rfl))) (fun _ _ _ _=>nV) (fun _ _ _ _=>AX (pE (pv 7) (pv 14)))) (ip _)) (Jc (Cd (zu 3 (by exact Q_ hr)) (uZ (pv 2) O.gF O.mz ll hr (a_ (pv 3) (a_ (pv 6) d_))) (iO d_) (ip _)))))))))))))))))))))))),?_⟩
 refine WZ ?_;intro _ _ _ _ _ _ _ _ _ _ _ _ _ _ _ _ _ _
 have b7:=mod_lt (cellAt ns 4) 17 (by decide)
 obtain⟨n,Oo⟩:∃n:Nat,cellAt ns 4%17=(n:Int):=⟨_,(Int.toNat_of_nonneg b7.1).symm⟩
 refine⟨_,rfl,_,rfl,a,ns,4,rfl,ha,by decide,_,_,rfl,rfl,(by show(0:Int)<17;decide),a,ns,7,n,true,?_,ha,by omega,by decide,by decide,by omega,fun bl d ss fs D W H1 B=>?_⟩
 ·show[V.ref a,V.int 7,V.int (cellAt ns 4%17),V.bl true]=_
  rw[Oo]
 have s1:=B.same
 have n7:n<17:=by omega
 have X1:=B.WY
 have hnf:∀x∈D.names,kT x:=fun x hx=>by
  obtain⟨j,_,e⟩:=B.names x hx
  rw[e];exact(nM _ _).xb
 have sm:=B.sz.small (by omega)
 have jA:uN D.made.length:=sm.many
 have Y1:∀{D':Dk},Tk D D'→Small D'.made:=fun t=>by rw[t.made];exact sm
 have K0:∀{Ha Hb:Hp},gj H Ha→o7 W Ha Hb→gj H Hb:=fun s s' b o e=>s' b o (s _ _ e) fun hb=>by rw[B.own b hb] at e;cases e
 have e3:(uh ns).length=3:=rfl
 refine⟨_,rfl,bl,_,_,_,rfl,rfl,gH.of B.at_,ic (j:=0) rfl rfl,?_⟩
 have b5:=mod_lt (cellAt ns 5) 3 (by decide)
 obtain⟨st,UH,rE⟩:=pick (xs:=uh ns) b5.1 b5.2
 refine⟨_,rfl,bl,_,_,_,rfl,rfl,gH.of B.at_,ic (j:=1) rfl rfl,_,rfl,a,ns,5,rfl,nK ha s1,by decide,_,_,rfl,rfl,(by show(0:Int)<3;decide),ss,_,_,_,rfl,rfl,gH.of B.st,UH,?_⟩
 have AB:st∈D.stores:=by rw[B.stores];exact rE
 have fst:=(vW st rE).xb
 dsimp only [mB];refine JM ?_;intro _
 let Jv:=fun(i:Nat) (σ:St) (H2:Hp)=>∃(v4 v5:Option V)(D2:Dk),σ=[rr a,rr bl,rr d,rs st,v4,v5,none,none,none,none,none,none,none,none,none]∧gj H H2∧H2 bl=some (.lst [.ref d,.ref ss,.ref fs])∧H2 ss=some (.lst (gp (uh ns)))∧H2 fs=some (.lst (gp (wA ns)))∧iq A H2 d D2 W∧Tk D D2
 refine⟨_,rfl,bl,_,_,_,rfl,rfl,gH.of B.at_,ic (j:=1) rfl rfl,ss,rfl,⟨_,gH.of B.st⟩,iM (K:=K) (a:=ss) (xs:=gp (uh ns)) Jv
  ⟨none,none,D,rfl,s1,B.at_,B.st,B.fl,X1,⟨B.inv,rfl,rfl⟩⟩ (by rintro _ _ _ _ ⟨_,_,_,_,_,_,e,_⟩;exact gH.of e) ?_ ?_⟩
 ·rintro i v σ H2 hv ⟨v4,v5,D2,rfl,s2,k1,k2,k3,X2,t2⟩
  obtain⟨so,YS,rfl⟩:=mv hv
  have QX:=WI YS
  have Nu:so∈D2.stores:=by rw[t2.stores,B.stores];exact QX
  have fso:=(vW so QX).xb
  obtain⟨π2,y2⟩:=id X2
  refine⟨_,rfl,d,π2.dx,_,rfl,y2.hd,sS,_,rfl,d,D2,W,so,rfl,X2,fso,(Y1 t2).many,fun h=>absurd Nu h,fun _ p qj=>?_⟩
  have s3:=s2.new (o:=.lst (gp (D2.has so))) qj
  have X3:=X2.same ((gj.refl H2).new (o:=.lst (gp (D2.has so))) qj)
  have u3:(upd H2 p (.lst (gp (D2.has so)))) p=some (.lst (gp (D2.has so))):=b_
  have g1:=ie (u:=.lst (gp (D2.has so))) qj k1
  have g2:=ie (u:=.lst (gp (D2.has so))) qj k2
  have g3:=ie (u:=.lst (gp (D2.has so))) qj k3
  generalize upd H2 p (.lst (gp (D2.has so)))=H3 at s3 X3 u3 g1 g2 g3
  have hm:∀x∈D2.has so,x∈D2.held so∧x∈D2.names:=fun x hx=>by
   obtain⟨h1,h2⟩:=aao.mp hx
   exact⟨aak h2,h1⟩
  let Jv:=fun(j:Nat) (σ:St) (H4:Hp)=>∃(v5:Option V)(D3:Dk),σ=[rr a,rr bl,rr d,rs st,rs so,v5,none,none,none,none,none,none,none,none,none]∧gj H H4∧H4 bl=some (.lst [.ref d,.ref ss,.ref fs])∧H4 ss=some (.lst (gp (uh ns)))∧H4 fs=some (.lst (gp (wA ns)))∧H4 p=some (.lst (gp (D2.has so)))∧iq A H4 d D3 W∧Tk D D3∧∀x∈D2.has so,x∈D3.held so
  refine⟨p,rfl,⟨_,gH.of u3⟩,iM (K:=K) (a:=p) (xs:=gp (D2.has so)) Jv
   ⟨v5,D2,rfl,s3,g1,g2,g3,u3,X3,t2,fun x hx=>(hm x hx).1⟩ (by rintro _ _ _ _ ⟨_,_,_,_,_,_,_,e,_⟩;exact gH.of e) ?_ ?_⟩
  ·rintro j v σ H4 hv ⟨v5,D3,rfl,s4,k1,k2,k3,u4,X4,t4,hh⟩
   obtain⟨x,hx,rfl⟩:=mv hv
   have Ob:=WI hx
   have IW:x∈D3.names:=by rw[t4.names,←t2.names];exact(hm x Ob).2
   obtain⟨π4,y4⟩:=id X4
   refine⟨_,rfl,d,π4.dx,_,rfl,y4.hd,G3,_,rfl,_,rfl,_,rfl,d,D3,W,st,so,x,rfl,X4,t4.inv,(Y1 t4).many,fst,fso,hnf x (by rw[←t4.names];exact IW),fun h=>absurd (by rw[t4.stores];exact AB) h,fun _ h=>absurd (by rw[t4.stores,B.stores];exact QX) h,fun _ _ h=>absurd (hh x Ob) h,fun _ _ _ cm H5 H6 s5 Nj hcm2 X6 s6=>?_⟩
   have up:∀{b:Addr} {xs:List V},H4 b=some (.lst xs)→H6 b=some (.lst xs):=fun{b xs} e=>s6 b _ (by rw[e_ (gh (s5 _ _ e) Nj)];exact s5 _ _ e) (X4.lst e)
   refine⟨_,D3.take st x,rfl,K0 ((s4.trans s5).new Nj) s6,up k1,up k2,up k3,up u4,X6,t4.take AB IW,fun y hy=>IC (hh y hy)⟩
  ·rintro σ H4 ⟨v5,D3,rfl,s4,k1,k2,k3,u4,X4,t4,hh⟩
   exact⟨_,_,D3,rfl,s4,k1,k2,k3,X4,t4⟩
 rintro σ H2 ⟨v4,v5,D2,rfl,s2,k1,k2,k3,X2,t2⟩
 have I2:=t2.inv
 have RK:=Y1 t2
 have Bn:st∈D2.stores:=by rw[t2.stores];exact AB
 obtain⟨π2,y2⟩:=id X2
 have b6:=mod_lt (cellAt ns 6) 2 (by decide)
 obtain⟨fl,UI,YG⟩:=pick (xs:=wA ns) b6.1 b6.2
 have gfl:=E8 fl YG
 refine⟨_,rfl,bl,_,_,_,rfl,rfl,gH.of k1,ic (j:=2) rfl rfl,_,rfl,a,ns,6,rfl,nK ha s2,by decide,_,_,rfl,rfl,(by show(0:Int)<2;decide),fs,_,_,_,rfl,rfl,gH.of k3,UI,?_⟩
 refine⟨_,rfl,d,π2.dx,_,rfl,y2.hd,Ge,_,rfl,_,rfl,d,D2,W,st,fl,rfl,X2,fst,RK,I2,fun h=>absurd Bn h,fun _ r H3 Om pF Az=>?_⟩
 refine⟨_,rfl,d,π2.dx,_,rfl,Om _ _ y2.hd,sT,_,rfl,_,rfl,d,D2,W,st,fl,rfl,X2.same Om,fst,RK,I2,fun h=>absurd Bn h,fun _ qa H4 qv Lm Y2 Yk Yl=>?_⟩
 have Ox:=Om.trans Lm
 refine⟨_,rfl,d,π2.dx,_,rfl,Ox _ _ y2.hd,G2,_,rfl,_,rfl,d,D2,W,st,fl,rfl,X2.same Ox,fst,RK,I2,fun h=>absurd Bn h,fun _ fo H5 l IX RF VQ rE=>?_⟩
 have QO:=Ox.trans IX
 have OA:=(Az.same Lm).same IX
 have Ry:=IX _ _ Yk
 have Rz:iV H5 (D2.pO st fl) qv:=Paired.kC Yl fun q v ⟨t,e,h⟩=>⟨t,e,IX _ _ h⟩
 refine⟨_,rfl,.ref r,2,D2.row st fl,rfl,OA.rep,_,rfl,i_ ?_⟩
 refine⟨_,rfl,.ref qa,2,D2.pO st fl,rfl,Ir Ry Rz,_,rfl,i_ ?_⟩
 have DQ:(D2.row st fl).length≤4000:=XI (I2.oH st fl) RK.iB
 have Lh:=aaj Rz
 intro bd Y3
 have s6:=(s2.trans QO).new (o:=.dT []) Y3
 have w6:gj H5 (upd H5 bd (.dT [])):=(gj.refl H5).new Y3
 have u6:(upd H5 bd (.dT [])) bd=some (.dT []):=b_
 generalize upd H5 bd (.dT [])=H6 at s6 w6 u6
 have hq6:=w6 _ _ Ry
 have QY:H5 bd=none:=Y3
 have QZ:(D2.row st fl).length≤48:=by
  have h1:=I2.oH st fl
  have h2:=B.sz.iB
  rw[t2.made] at h1
  omega
 have hqn:(D2.pO st fl).length≤2304:=by
  have h1:=Ag (Ah (gE (D2.l6 st) fl)) (D2.row st fl) (D2.row st fl).length
  rw[E2] at h1
  exact XI h1 (Nat.mul_le_mul QZ QZ)
 dsimp only [mB];refine JM ?_;intro _
 let Jv:=fun(i:Nat) (σ:St) (H7:Hp)=>∃(v11:Option V)(kg:List (List Key×V)),σ=[rr a,rr bl,rr d,rs st,v4,v5,rs fl,rr r,rr qa,rr fo,rr bd,v11,none,none,none]∧(∀b o,H6 b=some o→b≠bd→H7 b=some o)∧H7 bd=some (.dT kg)∧kg.length≤i∧∀x y:Nat,(iI kg (pk x y)).isSome=decide ((x,y)∈(D2.pO st fl).take i)
 refine⟨_,rfl,qa,rfl,⟨_,gH.of hq6⟩,iM (K:=K) (a:=qa) (xs:=qv) Jv
  ⟨none,[],rfl,fun b o e _=>e,u6,WL _,fun x y=>by simp[Jr]⟩ (by rintro _ _ _ _ ⟨_,_,_,e,_⟩;exact gH.of (e _ _ hq6 (gh Ry QY))) ?_ ?_⟩
 ·rintro i v σ H7 hv ⟨v11,kg,rfl,e1,e2,e3,e4⟩
  obtain⟨q0,Y2,t,rfl,ht⟩:=j6 Rz hv
  have hi:i<(D2.pO st fl).length:=(List.getElem?_eq_some_iff.mp Y2).1
  have ht7:=e1 _ _ (w6 _ _ ht) (gh ht QY)
  refine⟨_,rfl,_,rfl,bd,_,rfl,mK.t (k:=pk q0.1 q0.2) e2 ht7 (by omega),?_⟩
  have T4:=jf kg (pk q0.1 q0.2) (V.bl true)
  refine⟨_,_,rfl,fun b o e n=>by rw[e_ n];exact e1 b o e n,b_,by omega,fun x y=>?_⟩
  rw[jW,take_snoc Y2]
  by_cases c:pk x y=pk q0.1 q0.2
  ·rw[aar c,WM (by rw[show(x,y)=q0 from Qj c];simp)]
   rfl
  ·rw[aap c,e4 x y,decide_eq_decide,Z3,WG]
   exact⟨.inl,fun z=>z.resolve_right fun z=>c (by rw[←z])⟩
 rintro σ H7 ⟨v11,kg,rfl,e1,e2,e3,e4⟩
 have hqt:(D2.pO st fl).take qv.length=D2.pO st fl:=by rw[←Lh,aaq]
 rw[hqt] at e4
 have w7:gj H5 H7:=fun b o e=>e1 b o (w6 _ _ e) (gh e QY)
 have bad:Rg H7 bd (D2.pO st fl):=⟨kg,e2,e4⟩
 obtain⟨rv,xj,B8⟩:=id OA
 have UJ:=aaj B8
 obtain⟨c,L,C,hL,VA,hS⟩:=id rE
 have rF:=hS.mem
 have DP:=(hS.chain (NU _ _ _)).1
 refine⟨_,rfl,_,rfl,r,_,rfl,.inl (gH.of (w7 _ _ xj)),_,rfl,fo,bd,(D2.row st fl).length,L,l,D2.pO st fl,_,c,by rw[←UJ];rfl,w7 _ _ VQ,bad,DQ,fun i j=>KQ,NU _ _ _,C,hL,hS,fun H8 w78=>⟨_,rfl,i_ ?_⟩⟩
 have w8:=w7.trans w78
 have Y4:=w8 _ _ VQ
 refine⟨_,rfl,fo,_,rfl,.inl (gH.of Y4),fun sl K9=>?_⟩
 have w9:=w8.new (o:=.lst (kZ l)) K9
 have u9:(upd H8 sl (.lst (kZ l))) sl=some (.lst (kZ l)):=b_
 have Y5:=ie (u:=.lst (kZ l)) K9 Y4
 generalize upd H8 sl (.lst (kZ l))=H9 at w9 u9 Y5
 have rB:sl≠fo:=fun e=>by rw[e,Y4] at K9;cases K9
 refine⟨_,rfl,.inl ⟨rfl,_,gH.of Y5⟩,_,rfl,r,_,rfl,.inl (gH.of (w9 _ _ xj)),fo,_,_,rfl,rfl,Y5,by rw[lX];have:=hS.len;omega,?_⟩
 have f4:H4 fo=none:=RF
 have V1:gj H4 (upd H9 fo (.lst (kZ l++[.int rv.length]))):=(IX.trans w9).upd f4
 have Oz:(upd H9 fo (.lst (kZ l++[.int rv.length]))) sl=some (.lst (kZ l)):=by rw[e_ rB];exact u9
 generalize upd H9 fo (.lst (kZ l++[.int rv.length]))=Oj at V1 Oz
 have Q0:=Ox.trans V1
 have OB:=(Az.same Lm).same V1
 have Y6:=V1 _ _ Yk
 refine⟨_,rfl,d,π2.dx,_,rfl,Q0 _ _ y2.hd,G2,_,rfl,_,rfl,d,D2,W,st,fl,rfl,X2.same Q0,fst,RK,I2,fun h=>absurd Bn h,fun _ f2 YR l2 UZ hf20 Y7 Np=>?_⟩
 obtain⟨c2,L2',C2,YX,_,hS2⟩:=id Np
 have el:l2=l:=Gn C2 C YX hL hS2 hS
 subst el
 have V2:=UZ _ _ Oz
 refine⟨_,rfl,true,⟨f2,sl,rfl,rfl⟩,(He (n:=2) Y7).eq (He V2),_,rfl,i_ ?_⟩
 obtain⟨rv,xj,B8⟩:=id (OB.same UZ)
 have UJ:=aaj B8
 refine⟨_,rfl,r,_,rfl,.inl (gH.of xj),_,rfl,by omega,by omega,?_⟩
 rw[aa2]
 let Jv:=fun(i:Nat) (ys:List V) (σ:St) (RL:Hp)=>∃(La:Option V),σ=[rr a,rr bl,rr d,rs st,v4,v5,rs fl,rr r,rr qa,rr fo,rr bd,v11,rr sl,none,La]∧RL=YR∧ys=kZ ((List.range i).filter fun p=>decide (p∉l2))
 refine nX (by omega) Jv
  ⟨_,rfl,rfl,rfl⟩ (by rintro _ _ _ _ ⟨_,_,_,e⟩;rw[e,lX];exact XI (aaE _ _) (by rw[aaR];exact WL _)) ?_ ?_
 ·rintro i ys σ RL hi ⟨La,rfl,rfl,rfl⟩
  rw[show(0:Int)+(i:Int)=(i:Int) by omega]
  refine⟨_,rfl,_,rfl,sl,_,rfl,.inl (gH.of V2),rfl,K1 _,_,rfl,?_⟩
  refine kF (fun hb=>?_) (fun hb=>?_)
  ·have hb:(!Q7 (V.int i) (kZ l2))=true:=hb
   rw[Hd] at hb
   refine⟨_,rfl,_,rfl,rfl,?_⟩
   rw[abY,aaB,aaa (by simpa using hb),aaP]
   exact qg _ _
  ·have hb:¬(!Q7 (V.int i) (kZ l2))=true:=hb
   rw[Hd] at hb
   refine⟨_,rfl,rfl,?_⟩
   rw[abY,aaB,aad (by simpa using hb),aaP,aaK]
 rintro ys σ RL ⟨v14',rfl,rfl,rfl⟩ pl qi
 rw[UJ]
 have Nt:∀p,p∈(List.range (D2.row st fl).length).filter (fun p=>decide (p∉l2))↔p<(D2.row st fl).length∧p∉l2:=fun p=>by rw[aao,aaX,abx]
 have hzp:((List.range (D2.row st fl).length).filter fun p=>decide (p∉l2)).Pairwise (·<·):=List.pairwise_lt_range.sublist aaO
 have VY:((List.range (D2.row st fl).length).filter fun p=>decide (p∉l2)).length≤48:=XI (aaE _ _) (by rw[aaR];exact QZ)
 have hzr:((List.range (D2.row st fl).length).filter fun p=>decide (p∉l2)).length≤(D2.row st fl).length:=XI (aaE _ _) (by rw[aaR];exact WL _)
 generalize (List.range (D2.row st fl).length).filter (fun p=>decide (p∉l2))=zs at Nt hzp VY hzr
 have w13:=(gj.refl RL).new (o:=.lst (kZ zs)) qi
 have u13:(upd RL pl (.lst (kZ zs))) pl=some (.lst (kZ zs)):=b_
 generalize upd RL pl (.lst (kZ zs))=H13 at w13 u13
 refine⟨_,rfl,L2.jA,fun e0 he0=>?_⟩
 have RM:=w13.new (o:=.lst []) he0
 have V3:=ie (u:=.lst []) he0 u13
 have Y8:(upd H13 e0 (.lst [])) e0=some (.lst []):=b_
 generalize upd H13 e0 (.lst [])=H14 at RM V3 Y8
 have Q1:=(Q0.trans UZ).trans RM
 have U0:=RM _ _ (UZ _ _ Y6)
 by_cases hz:zs=[]
 ·subst hz
  refine⟨true,⟨pl,e0,rfl,rfl⟩,(tH (n:=2) V3).eq (tH Y8),_,rfl,kD ?_⟩
  have hqu:D2.pO st fl=[]:=As (KP DP fun i hi=>Classical.byContradiction fun hn=>by
   have:=(Nt i).mpr ⟨hi,hn⟩
   cases this)
  have hqv:qv=[]:=by
   have:=Lh
   rw[hqu] at this
   exact aaG.mp this.symm
  rw[hqv] at U0
  refine⟨_,rfl,L2.jA,fun e1 Y9=>?_⟩
  exact⟨true,⟨qa,e1,rfl,rfl⟩,(tH (n:=2) (ie Y9 U0)).eq (tH b_),q _⟩
 ·refine⟨false,⟨pl,e0,rfl,rfl⟩,pC.JC (gH.of V3) (gH.of Y8) (by rw[lX];exact fun e=>hz (aaG.mp e)),_,rfl,i_ ?_⟩
  have gx:=nM (AY ns 3) 30
  have fresh:nameOf (AY ns 3) 30∉D2.names:=fun hm=>by
   rw[t2.names] at hm
   obtain⟨j,hj,e⟩:=B.names _ hm
   have:=Ap (by decide) (by decide) (by omega) (by omega) e
   omega
  have okp:LF (D2.row st fl).length 0 (zs.map fun(i:Nat)=>(i:Int)):=Fb zs 0 hzp fun x hx=>⟨aaz _,((Nt x).mp hx).1⟩
  have Y_:=X2.same Q1
  refine⟨_,rfl,d,π2.dx,_,rfl,Q1 _ _ y2.hd,Ky,_,rfl,_,rfl,a,ns,3,rfl,nK ha (s2.trans Q1),by decide,_,_,rfl,rfl,(by show(0:Int)<20736;decide),_,_,rfl,_,rfl,_,rfl,d,pl,D2,W,st,_,fl,zs.map (fun(i:Nat)=>(i:Int)),rfl,Y_,I2,RK,fst,gx.xb,gfl.xb,by rw[←Av];exact V3,by rw[TU];omega,fun p hp=>?_,fun h=>absurd Bn h,fun _ h=>absurd ⟨gx,gfl⟩ h,fun _ _ _ h=>absurd h fresh,fun _ _ _ _ h=>absurd okp h,fun _ _ _ _ h=>absurd (List.map_eq_nil_iff.mp h) hz,fun _ _ _ _ _ _ H15 V4 w15=>?_⟩
  ·obtain⟨x,hx,rfl⟩:=List.mem_map.mp hp
   have:=((Nt x).mp hx).1
   refine abk (m:=108) ?_ (by decide)
   exact XI (Nat.log2_le_self _) (by show x≤108;omega)
  have hm:∀m,m∈(zs.map fun(i:Nat)=>(i:Int)).filterMap (fun p=>((D2.row st fl)[p.toNat]?).map (·.nm))↔∃q,q<(D2.row st fl).length∧q∉l2∧((D2.row st fl)[q]?).map (·.nm)=some m:=fun m=>by
   rw[abI]
   constructor
   ·rintro⟨p,hp,e⟩
    obtain⟨x,hx,rfl⟩:=List.mem_map.mp hp
    exact⟨x,((Nt x).mp hx).1,((Nt x).mp hx).2,e⟩
   ·rintro⟨x,h1,h2,e⟩
    exact⟨x,XE ((Nt x).mpr ⟨h1,h2⟩),e⟩
  obtain⟨Xs,UT⟩:=KR (f:=fl) I2 Bn fresh rF DP hm
  have hms:∀m∈(zs.map fun(i:Nat)=>(i:Int)).filterMap (fun p=>((D2.row st fl)[p.toNat]?).map (·.nm)),m∈(D2.row st fl).map (·.nm):=fun m h=>by
   obtain⟨x,_,_,e⟩:=(hm m).mp h
   obtain⟨o,ho,rfl⟩:=Option.map_eq_some_iff.mp e
   exact XE (WI ho)
  have Za:=I2.cut (x:=nameOf (AY ns 3) 30) Bn fresh hms
  have zD:Sz n D2:=⟨by rw[t2.made];exact B.sz.many,by rw[t2.made];exact B.sz.iB,by rw[t2.made];exact B.sz.j9⟩
  have hr3:=zD.row I2 st fl
  have z15:=zD.keep st (p:=⟨nameOf (AY ns 3) 30,some fl,[],(zs.map fun(i:Nat)=>(i:Int)).filterMap (fun p=>((D2.row st fl)[p.toNat]?).map (·.nm)),none⟩) (aaz _) (XI (ab0 _ _) (by rw[TU];omega))
  have Q2:=z15.small (by omega)
  have Q3:st∈(D2.keep st ⟨nameOf (AY ns 3) 30,some fl,[],(zs.map fun(i:Nat)=>(i:Int)).filterMap (fun p=>((D2.row st fl)[p.toNat]?).map (·.nm)),none⟩).stores:=Bn
  generalize D2.keep st ⟨nameOf (AY ns 3) 30,some fl,[],(zs.map fun(i:Nat)=>(i:Int)).filterMap (fun p=>((D2.row st fl)[p.toNat]?).map (·.nm)),none⟩=D5 at V4 Za z15 Q2 Q3 Xs UT
  have U1:=sU.K0 Y_ w15 ((OB.same UZ).same RM)
  have Sq:=w15 _ _ (RM _ _ V2) (Y_.lst (RM _ _ V2))
  obtain⟨π5,y5⟩:=id V4
  refine⟨_,rfl,d,π5.dx,_,rfl,y5.hd,Ge,_,rfl,_,rfl,d,D5,W,st,fl,rfl,V4,fst,Q2,Za,fun h=>absurd Q3 h,fun _ r5 H16 Zb hr50 U2=>?_⟩
  rw[Xs] at U2
  obtain⟨rv5,g1,g2⟩:=id (U1.same Zb)
  have Pd:=Zb _ _ Sq
  have Vz:l2.length≤4000:=by
   have:=hS.len
   omega
  let Jv:=fun(i:Nat) (ys:List V) (σ:St) (RN:Hp)=>∃(La:Option V),σ=[rr a,rr bl,rr d,rs st,v4,v5,rs fl,rr r,rr qa,rr fo,rr bd,v11,rr sl,rr pl,La]∧RN=H16∧ys.length≤i∧Paired (Ic H16) ys ((l2.take i).filterMap fun q=>(D2.row st fl)[q]?)
  refine⟨_,rfl,sl,rfl,⟨_,gH.of Pd⟩,kO (K:=K) (a:=sl) (xs:=kZ l2) (by rw[lX];omega) Jv
   ⟨_,rfl,rfl,WL _,.nil⟩ (by rintro _ _ _ _ _ ⟨_,_,e,e2,_⟩;rw[e];exact⟨gH.of Pd,e2⟩) ?_ ?_⟩
  ·rintro i v ys σ RN hv ⟨La,rfl,rfl,Ub,Rv⟩
   unfold kZ at hv
   rw[Z4] at hv
   obtain⟨x,hx,rfl⟩:=Option.map_eq_some_iff.mp hv
   have IW:=rF x (WI hx)
   obtain⟨o,ho⟩:∃o,(D2.row st fl)[x]?=some o:=⟨_,TZ IW⟩
   obtain⟨z,hz0,Lc⟩:=j6 g2 ho
   refine⟨_,rfl,_,rfl,r,_,_,_,rfl,rfl,gH.of g1,ic rfl hz0,_,rfl,rfl,by rw[W4];exact Nat.succ_le_succ Ub,?_⟩
   rw[take_snoc hx,abH,abq,ho]
   exact iA Rv Lc
  rintro ys σ RN ⟨v14'',rfl,rfl,Ub,Rv⟩ cl IT
  rw[lX,aaq] at Rv
  have V5:=(gj.refl RN).new (o:=.lst ys) IT
  have u18:(upd RN cl (.lst ys)) cl=some (.lst ys):=b_
  generalize upd RN cl (.lst ys)=H18 at V5 u18
  have U3:sU H18 cl (l2.filterMap fun q=>(D2.row st fl)[q]?):=⟨ys,u18,Paired.kC Rv fun v l ⟨t,e,h⟩=>⟨t,e,V5 _ _ h⟩⟩
  refine⟨true,⟨r5,cl,rfl,rfl⟩,((U2.same V5).rep.mono (by decide)).eq (U3.rep.mono (by decide)),_,rfl,kD ?_⟩
  have U4:=Zb.trans V5
  refine⟨_,rfl,d,π5.dx,_,rfl,U4 _ _ y5.hd,sT,_,rfl,_,rfl,d,D5,W,st,fl,rfl,V4.same U4,fst,Q2,Za,fun h=>absurd Q3 h,fun _ qb H19 qw w19 hqb0 U5 Zc=>⟨L2.jA,fun e1 Y9=>?_⟩⟩
  have hqw:qw=[]:=by
   have:=aaj Zc
   rw[UT] at this
   exact aaG.mp this.symm
  rw[hqw] at U5
  exact⟨true,⟨qb,e1,rfl,rfl⟩,(tH (n:=2) (ie Y9 U5)).eq (tH b_),q _⟩
end
end PK
namespace TW
open PySem PySem.W L2 PK
noncomputable section
noncomputable abbrev S:=Str.ofString
noncomputable abbrev ob:=Obj.mk
noncomputable abbrev v(x:String)(t:Nat):Value:=.str (S x) t
noncomputable abbrev r:=Value.ref
noncomputable abbrev vi:=Value.int
noncomputable abbrev i(n:Int):=Value.int n 0
noncomputable abbrev vn:=Value.none
noncomputable abbrev w:=Value.type
noncomputable abbrev b:=Value.builtin
noncomputable abbrev vl:=Value.bool
noncomputable abbrev cl:=ClassData.mk
noncomputable abbrev k:=@some Value
noncomputable abbrev d(P:Params)(x:String)(t:Nat)(y:Value):DictEntry:=.mk (PyData.keyHash P (S x)) (v x t) y
noncomputable abbrev x:=top
noncomputable abbrev y(i j:Nat):=inClass (top i) j
noncomputable abbrev n:=BT.node
noncomputable abbrev z:=BT.nil
noncomputable abbrev f(o:Obj):BT:=n o z z
noncomputable abbrev of(c:String)(l:List Value):Obj:=ob (w c) none (.fields l.toArray) #[]
noncomputable abbrev tp(l:List Value):Obj:=ob (w "tuple") none (.seq l.toArray 0) #[]
noncomputable abbrev fl(l:List Value):Obj:=ob vn none (.fields l.toArray) #[]
noncomputable abbrev l3(l:List (Int×Int×Addr)):Obj:=fl (l.flatMap fun(a,b,c)=>[i a,i b,r c])
noncomputable abbrev fd(n q:Str)(st:Stmt)(g:Addr)(c:List (Str×Addr))(d kd doc pm:Value)(an:Option Addr)(co ct:Value)(b:Addr):FuncData:=⟨n,q,oC st,.stmts (lb st),f_ st,g,c,d,kd,doc,pm,an,co,ct,b⟩
noncomputable abbrev fn(a b:String)(st:Stmt)(m:String)(t:Nat)(c:Addr):Obj:=ob (w "function") none (.func (fd (S a) (S b) st 3 [] vn vn vn (v m t) none (r c) vn 0)) #[]
noncomputable abbrev fv(a b:String)(st:Stmt):Obj:=ob vn none (.func (fd (S a) (S b) st 0 [] vn vn vn vn none vn vn 0)) #[]
noncomputable abbrev dt(l:List DictEntry)(c:Nat):Obj:=ob (w "dict") none (.dict l.toArray c) #[]
noncomputable abbrev fr(l:List (Option Value)):Obj:=ob (w "frame") none .plain l.toArray
noncomputable abbrev ty(c:ClassData)(l:List (Option Value)):Obj:=ob (w "type") none (.cls c) l.toArray
noncomputable abbrev o0:Addr→Value|0=>vn|a+1=>r (a+1)
noncomputable abbrev co(a b:String)(t:Nat)(l p q:Int)(c:Addr)(g:Int)(ys:List Addr)(u:Nat):Obj:=of "code" ([v a t,v b (t+1),v "/claim/cut.py" (t+2),i l,i p,i 0,i 0,i q,r c,vl true,i g]++ys.map o0++[i u,i l,v "/claim/cut.py" (u+1)])
noncomputable def g7(P:Params):List DictEntry:=[(d P "__doc__" 166 vn),(d P "__package__" 167 vn),(d P "__loader__" 168 (b "__main__.__loader__#opaque")),(d P "__spec__" 169 vn),(d P "__annotations__" 170 (r 6)),(d P "__builtins__" 171 (r 4)),(d P "__file__" 173 (v "/claim/cut.py" 172)),(d P "__cached__" 174 vn),(d P "_wall" 193 (r 21)),(d P "counts_with" 206 (r 28)),(d P "most_pairs" 212 (r 33)),(d P "place_from" 222 (r 40)),(d P "kept" 235 (r 47)),(d P "PatchError" 255 (r 57))]
def g8(P:Params):List DictEntry:=g7 P++[(d P "BadName" 271 (r 70))]
def g9(P:Params):List DictEntry:=g8 P++[(d P "NameTaken" 287 (r 82))]
def ha(P:Params):List DictEntry:=g9 P++[(d P "NoStore" 303 (r 94))]
def hb(P:Params):List DictEntry:=ha P++[(d P "NoPatch" 319 (r 106))]
def hc(P:Params):List DictEntry:=hb P++[(d P "NoLine" 335 (r 118))]
def hd(P:Params):List DictEntry:=hc P++[(d P "Unsettled" 351 (r 130))]
def he(P:Params):List DictEntry:=hd P++[(d P "Same" 367 (r 142))]
def hf(P:Params):List DictEntry:=he P++[(d P "Leant" 383 (r 154))]
def hg(P:Params):List DictEntry:=hf P++[(d P "Line" 420 (r 173))]
def hh(P:Params):List DictEntry:=hg P++[(d P "Patch" 457 (r 194)),(d P "lines_named_by" 463 (r 203)),(d P "leans_straight_on" 469 (r 208)),(d P "live_patches" 479 (r 215)),(d P "lines_put" 489 (r 222)),(d P "standing_lines" 495 (r 227)),(d P "files_with_lines" 501 (r 232))]
def hi(P:Params):List DictEntry:=hh P++[(d P "straight_ahead" 510 (r 239)),(d P "joined" 520 (r 246)),(d P "all_ahead" 526 (r 251)),(d P "first_free" 534 (r 258)),(d P "row_of" 540 (r 263))]
def hj(P:Params):List DictEntry:=hi P++[(d P "Sight" 611 (r 308)),(d P "NAME_SIGNS" 615 (v "abcdefghijklmnopqrstuvwxyz0123456789" 614)),(d P "LONGEST_NAME" 617 (vi 12 616))]
def hk(P:Params):List DictEntry:=hj P++[(d P "check_name" 625 (r 319)),(d P "check_places" 635 (r 326)),(d P "kept_behind" 645 (r 333)),(d P "new_lines" 659 (r 340)),(d P "changing_patch" 665 (r 345))]
def hl(P:Params):List DictEntry:=hk P++[(d P "Desk" 868 (r 502))]
def hm(P:Params):List DictEntry:=hl P++[(d P "_law_cell_at" 878 (r 513)),(d P "_law_draw" 888 (r 520)),(d P "_law_name" 902 (r 527)),(d P "_law_text" 908 (r 532)),(d P "_law_edit" 922 (r 539)),(d P "_law_deed" 928 (r 544)),(d P "_law_desk" 934 (r 549)),(d P "_law_whole" 941 (r 556)),(d P "_law_row_form" 949 (r 563)),(d P "_law_pairs_form" 957 (r 570)),(d P "_law_most" 963 (r 575)),(d P "_law_stay_right" 969 (r 580)),(d P "law" 975 (r 585))]
def aa:Obj:=tp []
def ab:Obj:=fl []
def ac:Obj:=of "builtin_function_or_method" [(b "type.__prepare__"),(w "type")]
def ad:Obj:=tp [(r 57)]
def ae:Obj:=of "code" [(v "<module>" 182),(v "<module>" 183),(v "/claim/cut.py" 184),(i 1),(i 0),(i 0),(i 0),(i 0),(r 11),(vl false),(i 181),(r 12),vn,vn,vn,vn,(i 185),(i 1),(v "/claim/cut.py" 186)]
def af:Obj:=fr [(k (r 13)),(k (r 3)),(k (r 3)),none,(k (v "__main__" 164)),none,(k (r 0))]
noncomputable def ag:Obj:=fn "kept" "kept" (x 5) "patchkin.differ" 194 46
def ah:Obj:=co "place_from" "place_from" 213 18 3 3 34 181 [35,0,36,37,38] 220
def ai:Obj:=co "counts_with" "counts_with" 196 5 3 3 22 181 [23,0,24,25,26] 204
noncomputable def aj:Obj:=tp [(v "old" 226),(v "new" 227),(v "table" 228),(v "pairs" 229),(v "start" 230),(v "first" 231),(v "second" 232)]
def ak:Obj:=tp [(v "k" 190)]
def al:Obj:=fn "most_pairs" "most_pairs" (x 3) "patchkin.differ" 194 32
def am:Obj:=fn "_wall" "_wall" (x 0) "__main__" 164 20
def an:Obj:=co "most_pairs" "most_pairs" 207 13 2 3 29 181 [30,0,0,0,31] 210
def ao:Obj:=tp [(w "ValueError")]
def ap:Obj:=tp [(v "text" 199),(v "new" 200),(v "below" 201),(v "counts" 202),(v "second" 203)]
def aq:Obj:=fn "place_from" "place_from" (x 4) "patchkin.differ" 194 39
def ar(P:Params):Obj:=dt [(d P "__module__" 245 (v "patchkin.errors" 236)),(d P "__firstlineno__" 249 (vi 34 248)),(d P "__static_attributes__" 250 (r 55)),(d P "__weakref__" 252 (r 58)),(d P "__doc__" 253 vn)] 3
def au:Obj:=co "_wall" "_wall" 187 1 1 3 15 181 [16,0,17,18,19] 191
noncomputable def av:Obj:=tp [(v "texts" 216),(v "text" 217),(v "start" 218),(v "place" 219)]
def aw:Obj:=fn "counts_with" "counts_with" (x 2) "patchkin.differ" 194 27
def ax:Obj:=of "getset_descriptor" [(v "__weakref__" 251),(r 57),(b "ExceptionGroup.__weakref__"),vn]
noncomputable def ay:Obj:=co "kept" "kept" 223 23 2 3 41 181 [42,0,43,44,45] 233
def az:Obj:=fv "most_pairs" "most_pairs" (x 3)
def aA:Obj:=fv "_wall" "_wall" (x 0)
def aB:Obj:=of "super" [(r 57),(r 57),(r 57)]
def aC(P:Params):Obj:=dt [(d P "__module__" 263 (v "patchkin.errors" 236)),(d P "__firstlineno__" 267 (vi 36 266)),(d P "__static_attributes__" 268 (r 68)),(d P "__doc__" 269 vn)] 2
def aD:Obj:=of "code" [(v "PatchError" 240),(v "PatchError" 241),(v "/claim/cut.py" 242),(i 34),(i 0),(i 0),(i 0),(i 0),(r 51),(vl false),(i 181),(r 52),vn,vn,vn,vn,(i 243),(i 34),(v "/claim/cut.py" 244)]
noncomputable def aE:Obj:=fv "kept" "kept" (x 5)
def aF:Obj:=of "builtin_function_or_method" [(b "object.__init_subclass__"),(r 57)]
def aG(P:Params):Obj:=dt [(d P "__module__" 245 (v "patchkin.errors" 236)),(d P "__qualname__" 247 (v "PatchError" 246)),(d P "__firstlineno__" 249 (vi 34 248)),(d P "__static_attributes__" 250 (r 55))] 4
def aH:Obj:=fv "counts_with" "counts_with" (x 2)
def aI:Obj:=fv "place_from" "place_from" (x 4)
def aJ:Obj:=ty (cl (S "BadName") [(r 57)] [(r 70),(r 57),(w "ValueError"),(w "Exception"),(w "BaseException"),(w "object")] 69 (S "BadName") true [] [] false none false) [(k (r 61)),none,(k (v "BadName" 256)),(k (v "BadName" 264)),(k (b "ValueError.__new__")),(k (vl true))]
def aK:Obj:=fr [(k (r 53)),(k (r 3)),(k (r 50)),none,(k (v "patchkin.errors" 236)),none,(k (r 0))]
def aL(P:Params):Obj:=dt [(d P "__module__" 263 (v "patchkin.errors" 236)),(d P "__qualname__" 265 (v "BadName" 264)),(d P "__firstlineno__" 267 (vi 36 266)),(d P "__static_attributes__" 268 (r 68))] 4
def aM:Obj:=of "super" [(r 70),(r 70),(r 70)]
def aN:Obj:=fr [(k (r 66)),(k (r 3)),(k (r 63)),none,(k (v "patchkin.errors" 236)),none,(k (r 0))]
def aO(P:Params):Obj:=dt [(d P "__module__" 279 (v "patchkin.errors" 236)),(d P "__firstlineno__" 283 (vi 38 282)),(d P "__static_attributes__" 284 (r 80)),(d P "__doc__" 285 vn)] 2
def aP:Obj:=of "builtin_function_or_method" [(b "object.__init_subclass__"),(r 70)]
def aQ:Obj:=of "code" [(v "BadName" 258),(v "BadName" 259),(v "/claim/cut.py" 260),(i 36),(i 0),(i 0),(i 0),(i 0),(r 64),(vl false),(i 181),(r 65),vn,vn,vn,vn,(i 261),(i 36),(v "/claim/cut.py" 262)]
def aR:Obj:=ty (cl (S "NameTaken") [(r 57)] [(r 82),(r 57),(w "ValueError"),(w "Exception"),(w "BaseException"),(w "object")] 81 (S "NameTaken") true [] [] false none false) [(k (r 73)),none,(k (v "NameTaken" 272)),(k (v "NameTaken" 280)),(k (b "ValueError.__new__")),(k (vl true))]
def aS:Obj:=fr [(k (r 78)),(k (r 3)),(k (r 75)),none,(k (v "patchkin.errors" 236)),none,(k (r 0))]
def aT:Obj:=of "super" [(r 82),(r 82),(r 82)]
def aU(P:Params):Obj:=dt [(d P "__module__" 279 (v "patchkin.errors" 236)),(d P "__qualname__" 281 (v "NameTaken" 280)),(d P "__firstlineno__" 283 (vi 38 282)),(d P "__static_attributes__" 284 (r 80))] 4
def aV(P:Params):Obj:=dt [(d P "__module__" 295 (v "patchkin.errors" 236)),(d P "__firstlineno__" 299 (vi 40 298)),(d P "__static_attributes__" 300 (r 92)),(d P "__doc__" 301 vn)] 2
def aW:Obj:=of "builtin_function_or_method" [(b "object.__init_subclass__"),(r 82)]
def aX:Obj:=of "code" [(v "NameTaken" 274),(v "NameTaken" 275),(v "/claim/cut.py" 276),(i 38),(i 0),(i 0),(i 0),(i 0),(r 76),(vl false),(i 181),(r 77),vn,vn,vn,vn,(i 277),(i 38),(v "/claim/cut.py" 278)]
def aY:Obj:=ty (cl (S "NoStore") [(r 57)] [(r 94),(r 57),(w "ValueError"),(w "Exception"),(w "BaseException"),(w "object")] 93 (S "NoStore") true [] [] false none false) [(k (r 85)),none,(k (v "NoStore" 288)),(k (v "NoStore" 296)),(k (b "ValueError.__new__")),(k (vl true))]
def aZ:Obj:=of "super" [(r 94),(r 94),(r 94)]
def a0(P:Params):Obj:=dt [(d P "__module__" 295 (v "patchkin.errors" 236)),(d P "__qualname__" 297 (v "NoStore" 296)),(d P "__firstlineno__" 299 (vi 40 298)),(d P "__static_attributes__" 300 (r 92))] 4
def a1:Obj:=fr [(k (r 90)),(k (r 3)),(k (r 87)),none,(k (v "patchkin.errors" 236)),none,(k (r 0))]
def a2(P:Params):Obj:=dt [(d P "__module__" 311 (v "patchkin.errors" 236)),(d P "__firstlineno__" 315 (vi 42 314)),(d P "__static_attributes__" 316 (r 104)),(d P "__doc__" 317 vn)] 2
def a3:Obj:=of "builtin_function_or_method" [(b "object.__init_subclass__"),(r 94)]
def a4:Obj:=ty (cl (S "NoPatch") [(r 57)] [(r 106),(r 57),(w "ValueError"),(w "Exception"),(w "BaseException"),(w "object")] 105 (S "NoPatch") true [] [] false none false) [(k (r 97)),none,(k (v "NoPatch" 304)),(k (v "NoPatch" 312)),(k (b "ValueError.__new__")),(k (vl true))]
def a5:Obj:=of "code" [(v "NoStore" 290),(v "NoStore" 291),(v "/claim/cut.py" 292),(i 40),(i 0),(i 0),(i 0),(i 0),(r 88),(vl false),(i 181),(r 89),vn,vn,vn,vn,(i 293),(i 40),(v "/claim/cut.py" 294)]
def a6:Obj:=fr [(k (r 102)),(k (r 3)),(k (r 99)),none,(k (v "patchkin.errors" 236)),none,(k (r 0))]
def a7(P:Params):Obj:=dt [(d P "__module__" 311 (v "patchkin.errors" 236)),(d P "__qualname__" 313 (v "NoPatch" 312)),(d P "__firstlineno__" 315 (vi 42 314)),(d P "__static_attributes__" 316 (r 104))] 4
def a8:Obj:=of "super" [(r 106),(r 106),(r 106)]
def a9(P:Params):Obj:=dt [(d P "__module__" 327 (v "patchkin.errors" 236)),(d P "__firstlineno__" 331 (vi 44 330)),(d P "__static_attributes__" 332 (r 116)),(d P "__doc__" 333 vn)] 2
def ba:Obj:=of "builtin_function_or_method" [(b "object.__init_subclass__"),(r 106)]
def bb:Obj:=of "code" [(v "NoPatch" 306),(v "NoPatch" 307),(v "/claim/cut.py" 308),(i 42),(i 0),(i 0),(i 0),(i 0),(r 100),(vl false),(i 181),(r 101),vn,vn,vn,vn,(i 309),(i 42),(v "/claim/cut.py" 310)]
def bc:Obj:=ty (cl (S "NoLine") [(r 57)] [(r 118),(r 57),(w "ValueError"),(w "Exception"),(w "BaseException"),(w "object")] 117 (S "NoLine") true [] [] false none false) [(k (r 109)),none,(k (v "NoLine" 320)),(k (v "NoLine" 328)),(k (b "ValueError.__new__")),(k (vl true))]
def bd(P:Params):Obj:=dt [(d P "__module__" 327 (v "patchkin.errors" 236)),(d P "__qualname__" 329 (v "NoLine" 328)),(d P "__firstlineno__" 331 (vi 44 330)),(d P "__static_attributes__" 332 (r 116))] 4
def be:Obj:=of "super" [(r 118),(r 118),(r 118)]
def bf:Obj:=fr [(k (r 114)),(k (r 3)),(k (r 111)),none,(k (v "patchkin.errors" 236)),none,(k (r 0))]
def bg(P:Params):Obj:=dt [(d P "__module__" 343 (v "patchkin.errors" 236)),(d P "__firstlineno__" 347 (vi 46 346)),(d P "__static_attributes__" 348 (r 128)),(d P "__doc__" 349 vn)] 2
def bh:Obj:=of "builtin_function_or_method" [(b "object.__init_subclass__"),(r 118)]
def bi:Obj:=ty (cl (S "Unsettled") [(r 57)] [(r 130),(r 57),(w "ValueError"),(w "Exception"),(w "BaseException"),(w "object")] 129 (S "Unsettled") true [] [] false none false) [(k (r 121)),none,(k (v "Unsettled" 336)),(k (v "Unsettled" 344)),(k (b "ValueError.__new__")),(k (vl true))]
def bj:Obj:=of "code" [(v "NoLine" 322),(v "NoLine" 323),(v "/claim/cut.py" 324),(i 44),(i 0),(i 0),(i 0),(i 0),(r 112),(vl false),(i 181),(r 113),vn,vn,vn,vn,(i 325),(i 44),(v "/claim/cut.py" 326)]
def bk:Obj:=fr [(k (r 126)),(k (r 3)),(k (r 123)),none,(k (v "patchkin.errors" 236)),none,(k (r 0))]
def bl:Obj:=of "super" [(r 130),(r 130),(r 130)]
def bm(P:Params):Obj:=dt [(d P "__module__" 343 (v "patchkin.errors" 236)),(d P "__qualname__" 345 (v "Unsettled" 344)),(d P "__firstlineno__" 347 (vi 46 346)),(d P "__static_attributes__" 348 (r 128))] 4
def bn(P:Params):Obj:=dt [(d P "__module__" 359 (v "patchkin.errors" 236)),(d P "__firstlineno__" 363 (vi 48 362)),(d P "__static_attributes__" 364 (r 140)),(d P "__doc__" 365 vn)] 2
def bo:Obj:=of "builtin_function_or_method" [(b "object.__init_subclass__"),(r 130)]
def bp:Obj:=ty (cl (S "Same") [(r 57)] [(r 142),(r 57),(w "ValueError"),(w "Exception"),(w "BaseException"),(w "object")] 141 (S "Same") true [] [] false none false) [(k (r 133)),none,(k (v "Same" 352)),(k (v "Same" 360)),(k (b "ValueError.__new__")),(k (vl true))]
def bq:Obj:=of "code" [(v "Unsettled" 338),(v "Unsettled" 339),(v "/claim/cut.py" 340),(i 46),(i 0),(i 0),(i 0),(i 0),(r 124),(vl false),(i 181),(r 125),vn,vn,vn,vn,(i 341),(i 46),(v "/claim/cut.py" 342)]
def br:Obj:=of "super" [(r 142),(r 142),(r 142)]
def bs(P:Params):Obj:=dt [(d P "__module__" 359 (v "patchkin.errors" 236)),(d P "__qualname__" 361 (v "Same" 360)),(d P "__firstlineno__" 363 (vi 48 362)),(d P "__static_attributes__" 364 (r 140))] 4
def bt:Obj:=fr [(k (r 138)),(k (r 3)),(k (r 135)),none,(k (v "patchkin.errors" 236)),none,(k (r 0))]
def bu:Obj:=ty (cl (S "PatchError") [(w "ValueError")] [(r 57),(w "ValueError"),(w "Exception"),(w "BaseException"),(w "object")] 56 (S "PatchError") true [] [(r 70),(r 82),(r 94),(r 106),(r 118),(r 130),(r 142),(r 154)] false none false) [(k (r 48)),none,(k (v "PatchError" 238)),(k (v "PatchError" 246)),(k (b "ValueError.__new__")),(k (vl true))]
def bv(P:Params):Obj:=dt [(d P "__module__" 375 (v "patchkin.errors" 236)),(d P "__firstlineno__" 379 (vi 50 378)),(d P "__static_attributes__" 380 (r 152)),(d P "__doc__" 381 vn)] 2
def bw:Obj:=of "builtin_function_or_method" [(b "object.__init_subclass__"),(r 142)]
def bx:Obj:=of "code" [(v "Same" 354),(v "Same" 355),(v "/claim/cut.py" 356),(i 48),(i 0),(i 0),(i 0),(i 0),(r 136),(vl false),(i 181),(r 137),vn,vn,vn,vn,(i 357),(i 48),(v "/claim/cut.py" 358)]
def bz:Obj:=ty (cl (S "Leant") [(r 57)] [(r 154),(r 57),(w "ValueError"),(w "Exception"),(w "BaseException"),(w "object")] 153 (S "Leant") true [] [] false none false) [(k (r 145)),none,(k (v "Leant" 368)),(k (v "Leant" 376)),(k (b "ValueError.__new__")),(k (vl true))]
def bA:Obj:=of "getset_descriptor" [(v "__weakref__" 416),(r 173),(b "ExceptionGroup.__weakref__"),vn]
def bB:Obj:=fr [(k (r 150)),(k (r 3)),(k (r 147)),none,(k (v "patchkin.errors" 236)),none,(k (r 0))]
def bC(P:Params):Obj:=dt [(d P "__module__" 375 (v "patchkin.errors" 236)),(d P "__qualname__" 377 (v "Leant" 376)),(d P "__firstlineno__" 379 (vi 50 378)),(d P "__static_attributes__" 380 (r 152))] 4
def bD:Obj:=tp [(v "lower_name" 409),(v "name" 410),(v "text" 411),(v "upper_name" 412)]
def bE:Obj:=of "super" [(r 154),(r 154),(r 154)]
def bF:Obj:=co "__init__" "Line.__init__" 398 55 5 3 164 181 [165,0,166,167,168] 406
def bG:Obj:=ty (cl (S "Line") [(w "object")] [(r 173),(w "object")] 172 (S "Line") true [] [] false none false) [none,none,(k (v "Line" 386)),(k (v "Line" 394)),(k (b "object.__new__")),(k (vl true))]
def bH(P:Params):Obj:=dt [(d P "__module__" 393 (v "patchkin.order" 384)),(d P "__firstlineno__" 397 (vi 53 396)),(d P "__init__" 408 (r 170)),(d P "__static_attributes__" 413 (r 171)),(d P "__dict__" 415 (r 174)),(d P "__weakref__" 417 (r 175)),(d P "__doc__" 418 vn)] 4
def bI:Obj:=of "builtin_function_or_method" [(b "object.__init_subclass__"),(r 154)]
def bJ:Obj:=fn "__init__" "Line.__init__" (y 17 0) "patchkin.order" 384 169
def bK:Obj:=tp [(v "self" 401),(v "name" 402),(v "text" 403),(v "upper_name" 404),(v "lower_name" 405)]
def bL:Obj:=of "code" [(v "Leant" 370),(v "Leant" 371),(v "/claim/cut.py" 372),(i 50),(i 0),(i 0),(i 0),(i 0),(r 148),(vl false),(i 181),(r 149),vn,vn,vn,vn,(i 373),(i 50),(v "/claim/cut.py" 374)]
def bM:Obj:=of "getset_descriptor" [(v "__dict__" 414),(r 173),(b "function.__dict__"),(b "function.__dict__#set")]
def bN:Obj:=fn "__init__" "Patch.__init__" (y 18 0) "patchkin.order" 384 190
def bO(P:Params):Obj:=dt [(d P "__module__" 393 (v "patchkin.order" 384)),(d P "__qualname__" 395 (v "Line" 394)),(d P "__firstlineno__" 397 (vi 53 396)),(d P "__init__" 408 (r 170)),(d P "__static_attributes__" 413 (r 171))] 5
def bP:Obj:=co "leans_straight_on" "leans_straight_on" 464 74 1 3 204 181 [205,0,0,0,206] 467
def bQ:Obj:=co "files_with_lines" "files_with_lines" 496 101 1 3 228 181 [229,0,0,0,230] 499
def bR:Obj:=fn "live_patches" "live_patches" (x 21) "patchkin.order" 384 214
def bS:Obj:=of "getset_descriptor" [(v "__dict__" 451),(r 194),(b "function.__dict__"),(b "function.__dict__#set")]
def bT:Obj:=fr [(k (r 162)),(k (r 3)),(k (r 159)),none,(k (v "patchkin.order" 384)),none,(k (r 0))]
def bU:Obj:=fn "standing_lines" "standing_lines" (x 23) "patchkin.order" 384 226
noncomputable def bV:Obj:=tp [(v "patches" 473),(v "taken_back" 474),(v "live" 475),(v "patch" 476)]
def bW:Obj:=fn "lines_named_by" "lines_named_by" (x 19) "patchkin.order" 384 202
def bX:Obj:=tp [(v "self" 436),(v "name" 437),(v "file" 438),(v "puts" 439),(v "cuts" 440),(v "other" 441)]
def bY(P:Params):Obj:=dt [(d P "__module__" 428 (v "patchkin.order" 384)),(d P "__firstlineno__" 432 (vi 60 431)),(d P "__init__" 444 (r 191)),(d P "__static_attributes__" 450 (r 192)),(d P "__dict__" 452 (r 195)),(d P "__weakref__" 454 (r 196)),(d P "__doc__" 455 vn)] 4
def bZ:Obj:=l3 [(55,4,169)]
def b0:Obj:=of "builtin_function_or_method" [(b "object.__init_subclass__"),(r 173)]
def b1:Obj:=co "lines_put" "lines_put" 480 88 2 3 216 181 [217,0,218,219,220] 487
def b2:Obj:=tp [(v "cuts" 445),(v "file" 446),(v "name" 447),(v "other" 448),(v "puts" 449)]
def b3:Obj:=fn "leans_straight_on" "leans_straight_on" (x 20) "patchkin.order" 384 207
def b4:Obj:=of "super" [(r 173),(r 173),(r 173)]
def b5:Obj:=fv "__init__" "Line.__init__" (y 17 0)
def b6:Obj:=fn "files_with_lines" "files_with_lines" (x 24) "patchkin.order" 384 231
def b7:Obj:=of "getset_descriptor" [(v "__weakref__" 453),(r 194),(b "ExceptionGroup.__weakref__"),vn]
def b8:Obj:=ty (cl (S "Patch") [(w "object")] [(r 194),(w "object")] 193 (S "Patch") true [] [] false none false) [none,none,(k (v "Patch" 421)),(k (v "Patch" 429)),(k (b "object.__new__")),(k (vl true))]
def b9:Obj:=of "code" [(v "Line" 388),(v "Line" 389),(v "/claim/cut.py" 390),(i 53),(i 0),(i 0),(i 0),(i 0),(r 160),(vl false),(i 181),(r 161),vn,vn,vn,vn,(i 391),(i 53),(v "/claim/cut.py" 392)]
def ca:Obj:=co "standing_lines" "standing_lines" 490 94 2 3 223 181 [224,0,0,0,225] 493
def cb:Obj:=co "lines_named_by" "lines_named_by" 458 68 1 3 199 181 [200,0,0,0,201] 461
def cc:Obj:=tp [(v "patches" 483),(v "file" 484),(v "lines" 485),(v "patch" 486)]
def cd:Obj:=co "live_patches" "live_patches" 470 79 1 3 209 181 [210,0,211,212,213] 477
def ce:Obj:=fn "lines_put" "lines_put" (x 22) "patchkin.order" 384 221
def cf:Obj:=co "__init__" "Patch.__init__" 433 62 6 3 185 181 [186,0,187,188,189] 442
def cg:Obj:=of "code" [(v "Patch" 423),(v "Patch" 424),(v "/claim/cut.py" 425),(i 60),(i 0),(i 0),(i 0),(i 0),(r 181),(vl false),(i 181),(r 182),vn,vn,vn,vn,(i 426),(i 60),(v "/claim/cut.py" 427)]
def ch:Obj:=fv "standing_lines" "standing_lines" (x 23)
def ci:Obj:=fv "lines_named_by" "lines_named_by" (x 19)
def cj:Obj:=of "super" [(r 194),(r 194),(r 194)]
def ck:Obj:=fv "live_patches" "live_patches" (x 21)
def cm:Obj:=fv "__init__" "Patch.__init__" (y 18 0)
def cn:Obj:=fr [(k (r 183)),(k (r 3)),(k (r 180)),none,(k (v "patchkin.order" 384)),none,(k (r 0))]
def cp(P:Params):Obj:=dt [(d P "__module__" 428 (v "patchkin.order" 384)),(d P "__qualname__" 430 (v "Patch" 429)),(d P "__firstlineno__" 432 (vi 60 431)),(d P "__init__" 444 (r 191)),(d P "__static_attributes__" 450 (r 192))] 5
def cq:Obj:=fv "lines_put" "lines_put" (x 22)
def cr:Obj:=of "builtin_function_or_method" [(b "object.__init_subclass__"),(r 194)]
def cs:Obj:=fv "files_with_lines" "files_with_lines" (x 24)
def ct:Obj:=l3 [(62,4,190)]
def cu:Obj:=fv "leans_straight_on" "leans_straight_on" (x 20)
def cv:Obj:=fn "straight_ahead" "straight_ahead" (x 25) "patchkin.order" 384 238
def cw:Obj:=fn "row_of" "row_of" (x 29) "patchkin.order" 384 262
def cx:Obj:=tp [(v "lines" 505),(v "straight" 506),(v "line" 507)]
def cy:Obj:=fn "all_ahead" "all_ahead" (x 27) "patchkin.order" 384 250
def cz:Obj:=co "first_free" "first_free" 527 136 1 3 252 181 [253,0,254,255,256] 532
def cA:Obj:=co "joined" "joined" 511 114 2 3 240 181 [241,0,242,243,244] 518
def cB:Obj:=fn "first_free" "first_free" (x 28) "patchkin.order" 384 257
noncomputable def cC:Obj:=tp [(v "names" 514),(v "ahead" 515),(v "found" 516),(v "name" 517)]
def cD:Obj:=co "all_ahead" "all_ahead" 521 120 1 3 247 181 [248,0,0,0,249] 524
def cE:Obj:=co "row_of" "row_of" 535 141 2 3 259 181 [260,0,0,0,261] 538
def cF:Obj:=fn "joined" "joined" (x 26) "patchkin.order" 384 245
def cG:Obj:=co "straight_ahead" "straight_ahead" 502 104 1 3 233 181 [234,0,235,236,237] 508
def cH:Obj:=tp [(v "waiting" 530),(v "name" 531)]
def cI:Obj:=tp [(v "self" 574),(v "pairs" 575),(v "first" 576),(v "second" 577)]
def cJ:Obj:=fn "quarrelling" "Sight.quarrelling" (y 30 2) "patchkin.order" 384 290
def cK(P:Params):Obj:=dt [(d P "__module__" 548 (v "patchkin.order" 384)),(d P "__firstlineno__" 552 (vi 156 551)),(d P "__init__" 561 (r 277)),(d P "is_ahead" 570 (r 284)),(d P "quarrelling" 580 (r 291)),(d P "most_from" 590 (r 298)),(d P "staying" 601 (r 305)),(d P "__static_attributes__" 604 (r 306)),(d P "__dict__" 606 (r 309)),(d P "__weakref__" 608 (r 310)),(d P "__doc__" 609 vn)] 4
def cL:Obj:=co "is_ahead" "Sight.is_ahead" 562 162 3 3 278 181 [279,0,280,281,282] 568
def cM:Obj:=tp [(v "self" 556),(v "patches" 557),(v "file" 558)]
def cN:Obj:=fn "staying" "Sight.staying" (y 30 4) "patchkin.order" 384 304
def cO:Obj:=co "most_from" "Sight.most_from" 581 173 1 3 292 181 [293,0,294,295,296] 588
def cP:Obj:=fv "all_ahead" "all_ahead" (x 27)
def cQ:Obj:=fv "row_of" "row_of" (x 29)
def cR:Obj:=fn "__init__" "Sight.__init__" (y 30 0) "patchkin.order" 384 276
def cS:Obj:=of "getset_descriptor" [(v "__dict__" 605),(r 308),(b "function.__dict__"),(b "function.__dict__#set")]
def cT:Obj:=tp [(v "self" 594),(v "counts" 595),(v "left" 596),(v "places" 597),(v "place" 598)]
def cU:Obj:=fv "straight_ahead" "straight_ahead" (x 25)
def cV:Obj:=fv "first_free" "first_free" (x 28)
def cW:Obj:=co "staying" "Sight.staying" 591 181 1 3 299 181 [300,0,301,302,303] 599
def cX:Obj:=tp [(v "self" 565),(v "first" 566),(v "second" 567)]
def cY:Obj:=co "__init__" "Sight.__init__" 553 158 3 3 271 181 [272,0,273,274,275] 559
def cZ:Obj:=ty (cl (S "Sight") [(w "object")] [(r 308),(w "object")] 307 (S "Sight") true [] [] false none false) [none,none,(k (v "Sight" 541)),(k (v "Sight" 549)),(k (b "object.__new__")),(k (vl true))]
def c0:Obj:=fv "joined" "joined" (x 26)
def c1:Obj:=fn "is_ahead" "Sight.is_ahead" (y 30 1) "patchkin.order" 384 283
def c2:Obj:=co "quarrelling" "Sight.quarrelling" 571 165 1 3 285 181 [286,0,287,288,289] 578
def c3:Obj:=tp [(v "ahead" 602),(v "lines" 603)]
def c4:Obj:=fn "most_from" "Sight.most_from" (y 30 3) "patchkin.order" 384 297
def c5:Obj:=tp [(v "self" 584),(v "counts" 585),(v "first" 586),(v "second" 587)]
def c6:Obj:=of "getset_descriptor" [(v "__weakref__" 607),(r 308),(b "ExceptionGroup.__weakref__"),vn]
def c7:Obj:=fv "staying" "Sight.staying" (y 30 4)
def c8:Obj:=of "super" [(r 308),(r 308),(r 308)]
def c9:Obj:=fv "__init__" "Sight.__init__" (y 30 0)
def da:Obj:=fv "quarrelling" "Sight.quarrelling" (y 30 2)
def db:Obj:=of "code" [(v "Sight" 543),(v "Sight" 544),(v "/claim/cut.py" 545),(i 156),(i 0),(i 0),(i 0),(i 0),(r 267),(vl false),(i 181),(r 268),vn,vn,vn,vn,(i 546),(i 156),(v "/claim/cut.py" 547)]
def dc:Obj:=fv "most_from" "Sight.most_from" (y 30 3)
def df:Obj:=of "builtin_function_or_method" [(b "object.__init_subclass__"),(r 308)]
def dg:Obj:=l3 [(158,4,276),(162,4,283),(165,4,290),(173,4,297),(181,4,304)]
def dh(P:Params):Obj:=dt [(d P "__module__" 548 (v "patchkin.order" 384)),(d P "__qualname__" 550 (v "Sight" 549)),(d P "__firstlineno__" 552 (vi 156 551)),(d P "__init__" 561 (r 277)),(d P "is_ahead" 570 (r 284)),(d P "quarrelling" 580 (r 291)),(d P "most_from" 590 (r 298)),(d P "staying" 601 (r 305)),(d P "__static_attributes__" 604 (r 306))] 9
def di:Obj:=fv "is_ahead" "Sight.is_ahead" (y 30 1)
def dj:Obj:=fr [(k (r 269)),(k (r 3)),(k (r 266)),none,(k (v "patchkin.order" 384)),none,(k (r 0))]
def dk:Obj:=fn "check_name" "check_name" (x 34) "patchkin.desk" 612 318
def dl:Obj:=co "new_lines" "new_lines" 646 210 3 3 334 181 [335,0,336,337,338] 657
def dm:Obj:=tp [(v "name" 621),(v "sign" 622)]
def dn:Obj:=tp [(v "kept_names" 639),(v "size" 640),(v "behind" 641),(v "place" 642)]
def dp:Obj:=fn "changing_patch" "changing_patch" (x 38) "patchkin.desk" 612 344
def dq:Obj:=co "check_places" "check_places" 626 199 2 3 320 181 [321,0,322,323,324] 633
def dr:Obj:=fn "kept_behind" "kept_behind" (x 36) "patchkin.desk" 612 332
def ds:Obj:=tp [(v "patch" 649),(v "texts" 650),(v "kept_names" 651),(v "behind" 652),(v "lines" 653),(v "upper_name" 654),(v "place" 655),(v "text" 656)]
def du:Obj:=co "changing_patch" "changing_patch" 660 221 4 3 341 181 [342,0,0,0,343] 663
def dv:Obj:=fn "new_lines" "new_lines" (x 37) "patchkin.desk" 612 339
def dw:Obj:=co "kept_behind" "kept_behind" 636 205 2 3 327 181 [328,0,329,330,331] 643
def dx:Obj:=tp [(v "places" 629),(v "size" 630),(v "least" 631),(v "place" 632)]
def dy:Obj:=fn "check_places" "check_places" (x 35) "patchkin.desk" 612 325
def dz:Obj:=co "check_name" "check_name" 618 193 1 3 313 181 [314,0,315,316,317] 623
def dA:Obj:=fn "__init__" "Desk.__init__" (y 39 0) "patchkin.desk" 612 358
noncomputable def dB:Obj:=fn "take" "Desk.take" (y 39 8) "patchkin.desk" 612 406
def dC:Obj:=fv "changing_patch" "changing_patch" (x 38)
noncomputable def dD:Obj:=fn "leans" "Desk.leans" (y 39 10) "patchkin.desk" 612 418
def dE:Obj:=tp [(v "self" 681)]
def dF:Obj:=fn "cut" "Desk.cut" (y 39 6) "patchkin.desk" 612 394
def dG:Obj:=fv "kept_behind" "kept_behind" (x 36)
def dH:Obj:=co "patches" "Desk.patches" 700 245 1 3 374 181 [375,0,376,377,378] 704
noncomputable def dI:Obj:=fn "has" "Desk.has" (y 39 4) "patchkin.desk" 612 384
def dJ:Obj:=co "back" "Desk.back" 725 271 4 3 396 181 [397,0,398,399,400] 732
def dK:Obj:=tp [(v "self" 696)]
def dL:Obj:=co "told" "Desk.told" 757 299 2 3 420 181 [421,0,422,423,424] 762
def dM:Obj:=co "record" "Desk.record" 713 252 5 3 386 181 [387,0,0,0,388] 716
def dN:Obj:=fn "stores" "Desk.stores" (y 39 2) "patchkin.desk" 612 372
noncomputable def dO:Obj:=co "begin" "Desk.begin" 685 236 2 3 360 181 [361,0,362,363,364] 690
noncomputable def dP:Obj:=co "drop" "Desk.drop" 741 287 3 3 408 181 [409,0,410,411,412] 748
def dQ:Obj:=fv "check_name" "check_name" (x 34)
noncomputable def dR:Obj:=co "has" "Desk.has" 707 248 2 3 381 181 [382,0,0,0,383] 710
def dS:Obj:=tp [(v "self" 703)]
def dT:Obj:=fv "check_places" "check_places" (x 35)
def dU:Obj:=co "stores" "Desk.stores" 693 242 1 3 367 181 [368,0,369,370,371] 697
def dV:Obj:=fn "patches" "Desk.patches" (y 39 3) "patchkin.desk" 612 379
noncomputable def dW:Obj:=co "leans" "Desk.leans" 751 295 2 3 415 181 [416,0,0,0,417] 754
def dX:Obj:=fn "back" "Desk.back" (y 39 7) "patchkin.desk" 612 401
def dY:Obj:=fv "new_lines" "new_lines" (x 37)
def dZ:Obj:=co "cut" "Desk.cut" 719 262 5 3 391 181 [392,0,0,0,393] 722
def d0:Obj:=tp [(v "self" 688),(v "store" 689)]
def d1:Obj:=tp [(v "self" 744),(v "store" 745),(v "patch" 746),(v "name" 747)]
def d2:Obj:=fn "record" "Desk.record" (y 39 5) "patchkin.desk" 612 389
def d3:Obj:=tp [(v "self" 760),(v "patch" 761)]
def d4:Obj:=co "__init__" "Desk.__init__" 678 231 1 3 353 181 [354,0,355,356,357] 682
noncomputable def d5:Obj:=co "take" "Desk.take" 735 277 4 3 403 181 [404,0,0,0,405] 738
def d6:Obj:=tp [(v "self" 728),(v "store" 729),(v "patch" 730),(v "other" 731)]
noncomputable def d7:Obj:=fn "begin" "Desk.begin" (y 39 1) "patchkin.desk" 612 365
noncomputable def d8:Obj:=fn "drop" "Desk.drop" (y 39 9) "patchkin.desk" 612 413
noncomputable def d9:Obj:=fv "has" "Desk.has" (y 39 4)
def ea:Obj:=of "code" [(v "Desk" 668),(v "Desk" 669),(v "/claim/cut.py" 670),(i 229),(i 0),(i 0),(i 0),(i 0),(r 349),(vl false),(i 181),(r 350),vn,vn,vn,vn,(i 671),(i 229),(v "/claim/cut.py" 672)]
def eb:Obj:=co "sight_of" "Desk.sight_of" 803 317 3 3 458 181 [459,0,460,461,462] 809
def ec:Obj:=tp [(v "self" 850),(v "store" 851),(v "patch" 852),(v "needs" 853),(v "name" 854)]
def ed:Obj:=fn "check_store" "Desk.check_store" (y 39 18) "patchkin.desk" 612 470
def ee:Obj:=of "getset_descriptor" [(v "__dict__" 862),(r 502),(b "function.__dict__"),(b "function.__dict__#set")]
def ef:Obj:=co "stay" "Desk.stay" 788 311 3 3 446 181 [447,0,448,449,450] 794
def eg:Obj:=tp [(v "self" 815),(v "store" 816)]
def eh:Obj:=fv "stores" "Desk.stores" (y 39 2)
noncomputable def ei:Obj:=fn "keep" "Desk.keep" (y 39 22) "patchkin.desk" 612 498
def ej:Obj:=co "check_new" "Desk.check_new" 837 332 3 3 486 181 [487,0,488,489,490] 844
noncomputable def ek:Obj:=fv "leans" "Desk.leans" (y 39 10)
def el:Obj:=tp [(v "self" 831),(v "store" 832),(v "patch" 833)]
def em:Obj:=fn "files" "Desk.files" (y 39 12) "patchkin.desk" 612 432
def en:Obj:=fv "cut" "Desk.cut" (y 39 6)
def eo:Obj:=fn "patches_of" "Desk.patches_of" (y 39 16) "patchkin.desk" 612 456
def ep:Obj:=tp [(v "self" 782),(v "store" 783),(v "file" 784)]
def eq:Obj:=fv "__init__" "Desk.__init__" (y 39 0)
def er:Obj:=fn "check_held" "Desk.check_held" (y 39 20) "patchkin.desk" 612 484
noncomputable def es:Obj:=fv "take" "Desk.take" (y 39 8)
def et:Obj:=co "row" "Desk.row" 773 305 3 3 434 181 [435,0,0,0,436] 776
noncomputable def eu(P:Params):Obj:=dt [(d P "__module__" 673 (v "patchkin.desk" 612)),(d P "__firstlineno__" 677 (vi 229 676)),(d P "__init__" 684 (r 359)),(d P "begin" 692 (r 366)),(d P "stores" 699 (r 373)),(d P "patches" 706 (r 380)),(d P "has" 712 (r 385)),(d P "record" 718 (r 390)),(d P "cut" 724 (r 395)),(d P "back" 734 (r 402)),(d P "take" 740 (r 407)),(d P "drop" 750 (r 414)),(d P "leans" 756 (r 419)),(d P "told" 764 (r 426)),(d P "files" 772 (r 433)),(d P "row" 778 (r 438)),(d P "quarrels" 787 (r 445)),(d P "stay" 796 (r 452)),(d P "patches_of" 802 (r 457)),(d P "sight_of" 811 (r 464)),(d P "check_store" 819 (r 471)),(d P "check_made" 827 (r 478)),(d P "check_held" 836 (r 485)),(d P "check_new" 846 (r 492)),(d P "keep" 857 (r 499)),(d P "__static_attributes__" 861 (r 500)),(d P "__dict__" 863 (r 503)),(d P "__weakref__" 865 (r 504)),(d P "__doc__" 866 vn)] 4
def ev:Obj:=tp [(v "self" 768),(v "store" 769)]
def ew:Obj:=co "check_made" "Desk.check_made" 820 324 2 3 472 181 [473,0,474,475,476] 825
def ex:Obj:=fn "quarrels" "Desk.quarrels" (y 39 14) "patchkin.desk" 612 444
def ey:Obj:=tp [(v "self" 791),(v "store" 792),(v "file" 793)]
def ez:Obj:=fr [(k (r 351)),(k (r 3)),(k (r 348)),none,(k (v "patchkin.desk" 612)),none,(k (r 0))]
def eA:Obj:=fv "back" "Desk.back" (y 39 7)
def eB:Obj:=fn "sight_of" "Desk.sight_of" (y 39 17) "patchkin.desk" 612 463
def eC:Obj:=co "files" "Desk.files" 765 302 2 3 427 181 [428,0,429,430,431] 770
def eD:Obj:=co "patches_of" "Desk.patches_of" 797 314 2 3 453 181 [454,0,0,0,455] 800
def eE:Obj:=fv "told" "Desk.told" (y 39 11)
def eF:Obj:=tp [(v "self" 840),(v "patch" 841),(v "files" 842),(v "name" 843)]
def eG:Obj:=of "getset_descriptor" [(v "__weakref__" 864),(r 502),(b "ExceptionGroup.__weakref__"),vn]
def eH:Obj:=fv "record" "Desk.record" (y 39 5)
def eI:Obj:=fn "stay" "Desk.stay" (y 39 15) "patchkin.desk" 612 451
def eJ:Obj:=co "check_held" "Desk.check_held" 828 328 3 3 479 181 [480,0,481,482,483] 834
def eK:Obj:=tp [(v "held" 858),(v "made" 859),(v "needs" 860)]
def eL:Obj:=tp [(v "self" 806),(v "store" 807),(v "file" 808)]
noncomputable def eM:Obj:=fv "begin" "Desk.begin" (y 39 1)
def eN:Obj:=fn "check_new" "Desk.check_new" (y 39 21) "patchkin.desk" 612 491
noncomputable def eO:Obj:=fv "drop" "Desk.drop" (y 39 9)
def eP:Obj:=co "quarrels" "Desk.quarrels" 779 308 3 3 439 181 [440,0,441,442,443] 785
noncomputable def eQ:Obj:=co "keep" "Desk.keep" 847 338 3 3 493 181 [494,0,495,496,497] 855
def eR:Obj:=fn "told" "Desk.told" (y 39 11) "patchkin.desk" 612 425
def eS:Obj:=tp [(v "self" 823),(v "patch" 824)]
def eT:Obj:=fv "patches" "Desk.patches" (y 39 3)
def eU:Obj:=co "check_store" "Desk.check_store" 812 320 2 3 465 181 [466,0,467,468,469] 817
def eV:Obj:=fn "row" "Desk.row" (y 39 13) "patchkin.desk" 612 437
def eW:Obj:=ty (cl (S "Desk") [(w "object")] [(r 502),(w "object")] 501 (S "Desk") true [] [] false none false) [none,none,(k (v "Desk" 666)),(k (v "Desk" 674)),(k (b "object.__new__")),(k (vl true))]
def eX:Obj:=fn "check_made" "Desk.check_made" (y 39 19) "patchkin.desk" 612 477
def eY(P:Params):Obj:=dt ((d P "__name__" 165 (v "law_patchkin_k14_whole_settled" 869))::hm P) 58
def eZ:Obj:=fn "_law_most" "_law_most" (x 51) "law_patchkin_k14_whole_settled" 869 574
def e0:Obj:=co "_law_deed" "_law_deed" 923 391 6 3 540 181 [541,0,0,0,542] 926
def e1:Obj:=fn "_law_name" "_law_name" (x 43) "law_patchkin_k14_whole_settled" 869 526
def e2:Obj:=tp [(v "row" 945),(v "line" 946)]
def e3:Obj:=fv "files" "Desk.files" (y 39 12)
def e4:Obj:=co "_law_draw" "_law_draw" 879 351 3 3 514 181 [515,0,516,517,518] 886
def e5:Obj:=fv "patches_of" "Desk.patches_of" (y 39 16)
def e6:Obj:=tp [(v "texts" 912),(v "cell" 913),(v "at" 914),(v "line" 915),(v "more" 916),(v "way" 917),(v "out" 918),(v "turned" 919)]
def e7:Obj:=co "_law_stay_right" "_law_stay_right" 964 446 3 3 576 181 [577,0,0,0,578] 967
def e8:Obj:=fv "check_held" "Desk.check_held" (y 39 20)
def e9:Obj:=co "_law_text" "_law_text" 903 367 1 3 528 181 [529,0,0,0,530] 906
def fa:Obj:=fn "_law_row_form" "_law_row_form" (x 49) "law_patchkin_k14_whole_settled" 869 562
def fb:Obj:=tp [(v "cell" 892),(v "k" 893),(v "signs" 894),(v "size" 895),(v "base" 896),(v "far" 897),(v "found" 898),(v "j" 899)]
def fc:Obj:=co "_law_whole" "_law_whole" 935 422 1 3 550 181 [551,0,552,553,554] 939
def fe:Obj:=fn "_law_edit" "_law_edit" (x 45) "law_patchkin_k14_whole_settled" 869 538
def ff:Obj:=fv "quarrels" "Desk.quarrels" (y 39 14)
def fg:Obj:=fn "_law_cell_at" "_law_cell_at" (x 41) "law_patchkin_k14_whole_settled" 869 512
noncomputable def fh:Obj:=fv "keep" "Desk.keep" (y 39 22)
def fi:Obj:=fn "law" "law" (x 53) "law_patchkin_k14_whole_settled" 869 584
def fj:Obj:=co "_law_pairs_form" "_law_pairs_form" 950 433 1 3 564 181 [565,0,566,567,568] 955
def fk:Obj:=of "super" [(r 502),(r 502),(r 502)]
def fm:Obj:=fn "_law_desk" "_law_desk" (x 47) "law_patchkin_k14_whole_settled" 869 548
def fo:Obj:=fv "check_store" "Desk.check_store" (y 39 18)
def fp:Obj:=tp [(v "script" 874),(v "k" 875)]
def fq:Obj:=co "_law_cell_at" "_law_cell_at" 871 347 2 3 507 181 [508,0,509,510,511] 876
def fs:Obj:=fn "_law_deed" "_law_deed" (x 46) "law_patchkin_k14_whole_settled" 869 543
def ft:Obj:=fn "_law_draw" "_law_draw" (x 42) "law_patchkin_k14_whole_settled" 869 519
def fu:Obj:=co "law" "law" 970 465 1 3 581 181 [582,0,0,0,583] 973
def fw:Obj:=tp [(v "found" 938)]
def fx:Obj:=tp [(v "cell" 882),(v "k" 883),(v "bound" 884),(v "stir" 885)]
def fy:Obj:=fn "_law_stay_right" "_law_stay_right" (x 52) "law_patchkin_k14_whole_settled" 869 579
def fz:Obj:=co "_law_desk" "_law_desk" 929 410 4 3 545 181 [546,0,0,0,547] 932
def fA:Obj:=fn "_law_text" "_law_text" (x 44) "law_patchkin_k14_whole_settled" 869 531
def fB:Obj:=fv "row" "Desk.row" (y 39 13)
def fC:Obj:=fn "_law_whole" "_law_whole" (x 48) "law_patchkin_k14_whole_settled" 869 555
noncomputable def fD(P:Params):Obj:=dt [(d P "__module__" 673 (v "patchkin.desk" 612)),(d P "__qualname__" 675 (v "Desk" 674)),(d P "__firstlineno__" 677 (vi 229 676)),(d P "__init__" 684 (r 359)),(d P "begin" 692 (r 366)),(d P "stores" 699 (r 373)),(d P "patches" 706 (r 380)),(d P "has" 712 (r 385)),(d P "record" 718 (r 390)),(d P "cut" 724 (r 395)),(d P "back" 734 (r 402)),(d P "take" 740 (r 407)),(d P "drop" 750 (r 414)),(d P "leans" 756 (r 419)),(d P "told" 764 (r 426)),(d P "files" 772 (r 433)),(d P "row" 778 (r 438)),(d P "quarrels" 787 (r 445)),(d P "stay" 796 (r 452)),(d P "patches_of" 802 (r 457)),(d P "sight_of" 811 (r 464)),(d P "check_store" 819 (r 471)),(d P "check_made" 827 (r 478)),(d P "check_held" 836 (r 485)),(d P "check_new" 846 (r 492)),(d P "keep" 857 (r 499)),(d P "__static_attributes__" 861 (r 500))] 27
def fE:Obj:=fv "check_made" "Desk.check_made" (y 39 19)
def fF:Obj:=fv "stay" "Desk.stay" (y 39 15)
def fG:Obj:=co "_law_row_form" "_law_row_form" 942 424 1 3 557 181 [558,0,559,560,561] 947
def fH:Obj:=fv "check_new" "Desk.check_new" (y 39 21)
def fI:Obj:=co "_law_edit" "_law_edit" 909 375 2 3 533 181 [534,0,535,536,537] 920
def fJ:Obj:=fn "_law_pairs_form" "_law_pairs_form" (x 50) "law_patchkin_k14_whole_settled" 869 569
def fK:Obj:=of "builtin_function_or_method" [(b "object.__init_subclass__"),(r 502)]
def fL:Obj:=tp [(v "found" 953),(v "pair" 954)]
def fM:Obj:=co "_law_name" "_law_name" 889 355 2 3 521 181 [522,0,523,524,525] 900
def fN:Obj:=fv "sight_of" "Desk.sight_of" (y 39 17)
def fO:Obj:=l3 [(231,4,358),(236,4,365),(242,4,372),(245,4,379),(248,4,384),(252,4,389),(262,4,394),(271,4,401),(277,4,406),(287,4,413),(295,4,418),(299,4,425),(302,4,432),(305,4,437),(308,4,444),(311,4,451),(314,4,456),(317,4,463),(320,4,470),(324,4,477),(328,4,484),(332,4,491),(338,4,498)]
def fP:Obj:=co "_law_most" "_law_most" 958 440 2 3 571 181 [572,0,0,0,573] 961
def fQ:Obj:=fv "_law_cell_at" "_law_cell_at" (x 41)
def fS:Obj:=fv "_law_desk" "_law_desk" (x 47)
def fT:Obj:=fv "_law_row_form" "_law_row_form" (x 49)
def fU:Obj:=fv "_law_edit" "_law_edit" (x 45)
def fV:Obj:=fv "_law_name" "_law_name" (x 43)
def fW:Obj:=fv "_law_most" "_law_most" (x 51)
def fX:Obj:=fv "_law_pairs_form" "_law_pairs_form" (x 50)
def fY:Obj:=l3 [(1,0,20),(5,0,27),(13,0,32),(18,0,39),(23,0,46),(34,0,53),(36,0,66),(38,0,78),(40,0,90),(42,0,102),(44,0,114),(46,0,126),(48,0,138),(50,0,150),(53,0,162),(60,0,183),(68,0,202),(74,0,207),(79,0,214),(88,0,221),(94,0,226),(101,0,231),(104,0,238),(114,0,245),(120,0,250),(136,0,257),(141,0,262),(156,0,269),(193,0,318),(199,0,325),(205,0,332),(210,0,339),(221,0,344),(229,0,351),(347,0,512),(351,0,519),(355,0,526),(367,0,531),(375,0,538),(391,0,543),(410,0,548),(422,0,555),(424,0,562),(433,0,569),(440,0,574),(446,0,579),(465,0,584)]
def fZ:Obj:=fv "_law_stay_right" "_law_stay_right" (x 52)
def f0:Obj:=fv "_law_text" "_law_text" (x 44)
def f1:Obj:=fv "_law_whole" "_law_whole" (x 48)
def f2:Obj:=fv "_law_draw" "_law_draw" (x 42)
def f3:Obj:=fv "_law_deed" "_law_deed" (x 46)
def f4(P:Params):Obj:=dt ((d P "__name__" 165 (v "patchkin.desk" 612))::hk P) 44
def f5:Obj:=l3 [(1,0,20),(5,0,27),(13,0,32),(18,0,39),(23,0,46),(34,0,53),(36,0,66),(38,0,78),(40,0,90),(42,0,102),(44,0,114),(46,0,126),(48,0,138),(50,0,150),(53,0,162),(60,0,183),(68,0,202),(74,0,207),(79,0,214),(88,0,221),(94,0,226),(101,0,231),(104,0,238),(114,0,245),(120,0,250),(136,0,257),(141,0,262),(156,0,269),(193,0,318),(199,0,325),(205,0,332),(210,0,339),(221,0,344),(229,0,351)]
def f6(P:Params):Obj:=dt ((d P "__name__" 165 (v "patchkin.order" 384))::hh P) 31
def f8(P:Params):Obj:=dt ((d P "__name__" 165 (v "patchkin.errors" 236))::g8 P) 16
def gb(P:Params):Obj:=dt ((d P "__name__" 165 (v "patchkin.order" 384))::hf P) 23
def gd(P:Params):Obj:=dt ((d P "__name__" 165 (v "patchkin.errors" 236))::hb P) 19
def gg(P:Params):Obj:=dt ((d P "__name__" 165 (v "patchkin.desk" 612))::hj P) 39
def gi(P:Params):Obj:=dt ((d P "__name__" 165 (v "patchkin.errors" 236))::hc P) 20
def gn(P:Params):Obj:=dt ((d P "__name__" 165 (v "patchkin.order" 384))::hi P) 36
def gq(P:Params):Obj:=dt ((d P "__name__" 165 (v "patchkin.errors" 236))::hd P) 21
def gt(P:Params):Obj:=dt ((d P "__name__" 165 (v "patchkin.errors" 236))::g7 P) 15
def gw(P:Params):Obj:=dt ((d P "__name__" 165 (v "patchkin.errors" 236))::ha P) 18
def gz(P:Params):Obj:=dt ((d P "__name__" 165 (v "patchkin.desk" 612))::hl P) 45
def gA(P:Params):Obj:=dt ((d P "__name__" 165 (v "patchkin.errors" 236))::he P) 22
def gD(P:Params):Obj:=dt ((d P "__name__" 165 (v "patchkin.errors" 236))::g9 P) 17
def gG(P:Params):Obj:=dt ((d P "__name__" 165 (v "patchkin.order" 384))::hg P) 24
def gI:BT:=n ab (f ab) (f ab)
def gJ:BT:=n aq (n aP (f aa) (f ab)) (n aa (f b5) (f b6))
def gK:BT:=n aa (f aa) (f aa)
def gL:BT:=n aa (f aa) z
def gM(P:Params):BT:=n aa (n az (n (aL P) (f bk) z) (f aZ)) (n ag (n aS (f br) z) (f (bd P)))
def gN(P:Params):BT:=n aa (n aE (n ab (f (bn P)) z) (f ad)) (n ad (f (aV P)) (f ab))
def gO:BT:=n ab (n an gL (f a3)) (n ao (n aa (f bw) z) (f aa))
def gP:BT:=n ab (n ay (n aX (f bp) z) (f ac)) (n ac (f aY) (f bq))
def gQ:BT:=n ab (n an (f aa) (f a3)) (n ao (f aa) z)
def gR:BT:=n aw (n aa (f aa) (f ba)) (n aF (f aa) z)
def gS:BT:=n aH (n ab (f ac) (f a4)) (n ax (f a5) z)
def gT:BT:=n ab (n ay (f aX) z) (n ac (f aY) z)
def gU:BT:=n ab (f ac) z
def gV:BT:=n ab (f ab) z
def gW:BT:=n aa (f ab) z
def gX:BT:=n aa (f ab) (f aa)
def gY(P:Params):BT:=n am (n aa (f (aC P)) (f ab)) (n aD (f ad) (f (a9 P)))
def gZ:BT:=n aa (n aI (f aJ) (f bb)) (n aK (f ac) (f bc))
def g0:BT:=n aa (f aa) (f ab)
def g1(P:Params):BT:=n aA (n ab (n aN (f bl) z) (f (a7 P))) (n aa (f aT) (f bf))
def g2(P:Params):BT:=n ak (n al (n ab (f (bg P)) z) (f ad)) (n ac (f (aO P)) (f ab))
def g3:BT:=n au (n av (n aa (f bo) z) (f aa)) (n ab (f aW) (f aa))
def g4(P:Params):BT:=n aa (n aa (n aQ (f bi) z) (f ac)) (n (aG P) (f aR) (f bj))
def g5:BT:=n aA (n ab (f aN) z) (n aa (f aT) z)
def g6:BT:=n au (n av (f aa) z) (n ab (f aW) z)
end
end TW
namespace PySem.W.Fast
open PySem PySem.W L2 PK TW
noncomputable section
def tw3482247643919166406:Program:=PySem.Challenge.pw_patchkin_k14_whole_settled
theorem te3482247643919166406:tw3482247643919166406=tw3482247643919166406:=rfl
def tw7353400412241945184:Params→BT:=fun P=>n (boot_o_0 P) (n (boot_o_1 P) (n (f6 P) (n (boot_o_7 P) (n aa (n az (n (aL P) (f bk) (f bN)) (n aZ (f (bO P)) (f aa))) (n ag (n aS (f br) (f bP)) (n (bd P) (f bA) z))) (n ab (n ah (n aM (f (bs P)) (f aa)) (n a6 (f aa) (f bQ))) (n aa (n (a0 P) (f bB) (f bR)) (n be (f cg) z)))) (n aa (n aA (n ab (n aN (f bl) (f bS)) (n (a7 P) (f bT) (f bU))) (n aa (n aT (f (bC P)) (f bV)) (n bf (f ac) z))) (n ai (n aj (n (aU P) (f bt) (f bW)) (n a8 (f bD) z)) (n aB (n a1 (f bE) (f aa)) (n (bm P) (f bX) z))))) (n (boot_o_5 P) (n (boot_o_9 P) (n ak (n al (n ab (f (bg P)) (f (bY P))) (n ad (f bZ) (f ch))) (n ac (n (aO P) (f ad) (f aa)) (n ab (f b0) z))) (n aa (n aa (n ad (f ab) (f ci)) (n (a2 P) (f bF) z)) (n bu (n ab (f (bv P)) (f ab)) (n ad (f aa) z)))) (n ae (n am (n aa (n (aC P) (f ad) (f cj)) gI) (n aD (n ad (f ab) (f ck)) (n (a9 P) (f aa) z))) (n aa (n aE (n ab (f (bn P)) (f ab)) (n ad (f bG) z)) (n ad (n (aV P) (f aa) (f b1)) (n ab (f cm) z)))))) (n (boot_o_2 P) (n (boot_o_4 P) (n (boot_o_8 P) (n ab (n an (n aa (f aa) (f b2)) (n a3 (f aa) (f ab))) (n ao (n aa (f bw) (f b3)) (n aa (f b4) z))) (n ap gJ (n (ar P) gK (n bh (f cn) z)))) (n (l3 [(1,0,20),(5,0,27),(13,0,32),(18,0,39),(23,0,46),(34,0,53),(36,0,66),(38,0,78),(40,0,90),(42,0,102),(44,0,114),(46,0,126),(48,0,138),(50,0,150),(53,0,162),(60,0,183),(68,0,202),(74,0,207),(79,0,214),(88,0,221),(94,0,226),(101,0,231)]) (n au (n av (n aa (f bo) (f b7)) gK) (n ab (n aW (f aa) (f aa)) (n aa (f (cp P)) z))) (n aw (n aa gK (n ba (f (bH P)) z)) (n aF (n aa (f bI) (f cq)) gL)))) (n (boot_o_6 P) (n (boot_o_10 P) (n aa (n aa (n aQ (f bi) (f b8)) (n ac (f b9) (f ca))) (n (aG P) (n aR (f ac) (f ab)) (n bj (f aa) z))) (n aH (n ab (n ac (f bx) (f cb)) (n a4 (f bJ) z)) (n ax (n a5 (f bz) (f cc)) (n ac (f ab) z)))) (n af (n aa (n aI (n aJ (f ac) (f cr)) (n bb (f bK) (f cs))) (n aK (n ac (f bL) (f cd)) (n bc (f ct) z))) (n ab (n ay (n aX (f bp) (f cu)) (n ac (f bM) z)) (n ac (n aY (f ac) (f ce)) (n bq (f cf) z))))))
theorem te7353400412241945184:tw7353400412241945184=tw7353400412241945184:=rfl
def tw18049469496248163649:Params→BT:=fun P=>n (boot_o_0 P) (n (boot_o_1 P) (n (f8 P) (n (boot_o_7 P) (n aa (n az (f (aL P)) z) (f ag)) (n ab (n ah (f aM) z) (f aa))) (n aa (n aA (n ab (f aN) z) (f aa)) (n ai (f aj) (f aB)))) (n (boot_o_5 P) (n (boot_o_9 P) (n ak (n al (f ab) z) (f ac)) (n aa (f aa) (f (ty (cl (S "PatchError") [(w "ValueError")] [(r 57),(w "ValueError"),(w "Exception"),(w "BaseException"),(w "object")] 56 (S "PatchError") true [] [(r 70)] false none false) [(k (r 48)),none,(k (v "PatchError" 238)),(k (v "PatchError" 246)),(k (b "ValueError.__new__")),(k (vl true))])))) (n ae (n am (n aa (f (aC P)) z) (f aD)) (n aa (f aE) (f ad))))) (n (boot_o_2 P) (n (boot_o_4 P) (n (boot_o_8 P) (n ab (n an (f aa) z) (f ao)) (n ap (n aq (f aP) z) (f (ar P)))) (n (l3 [(1,0,20),(5,0,27),(13,0,32),(18,0,39),(23,0,46),(34,0,53),(36,0,66)]) (n au (n av (f aa) z) (f ab)) (n aw (f aa) (f aF)))) (n (boot_o_6 P) (n (boot_o_10 P) (n aa (n aa (f aQ) z) (f (aG P))) (n aH (f ab) (f ax))) (n af (n aa (n aI (f aJ) z) (f aK)) (n ab (f ay) (f ac)))))
theorem te18049469496248163649:tw18049469496248163649=tw18049469496248163649:=rfl
def tw16015267058893151777:Params→BT:=fun P=>n (boot_o_0 P) (n (boot_o_1 P) (n (gb P) (n (boot_o_7 P) (gM P) (n ab (n ah (n aM (f (bs P)) z) (f a6)) (n aa (n (a0 P) (f bB) z) (f be)))) (n aa (n aA (n ab (n aN (f bl) z) (f (a7 P))) (n aa (n aT (f (bC P)) z) (f bf))) (n ai (n aj (n (aU P) (f bt) z) (f a8)) (n aB (n a1 (f bE) z) (f (bm P)))))) (n (boot_o_5 P) (n (boot_o_9 P) (n ak (n al (n ab (f (bg P)) z) (f ad)) (n ac (n (aO P) (f ad) z) (f ab))) (n aa (n aa (n ad (f ab) z) (f (a2 P))) (n bu (n ab (f (bv P)) z) (f ad)))) (n ae (n am (n aa (n (aC P) (f ad) z) (f ab)) (n aD (n ad (f ab) z) (f (a9 P)))) (gN P)))) (n (boot_o_2 P) (n (boot_o_4 P) (n (boot_o_8 P) gO (n ap (n aq (n aP (f aa) z) (f aa)) (n (ar P) gL (f bh)))) (n (l3 [(1,0,20),(5,0,27),(13,0,32),(18,0,39),(23,0,46),(34,0,53),(36,0,66),(38,0,78),(40,0,90),(42,0,102),(44,0,114),(46,0,126),(48,0,138),(50,0,150)]) (n au (n av (n aa (f bo) z) (f aa)) (n ab (n aW (f aa) z) (f aa))) (n aw (n aa gL (f ba)) (n aF (n aa (f bI) z) (f aa))))) (n (boot_o_6 P) (n (boot_o_10 P) (n aa (n aa (n aQ (f bi) z) (f ac)) (n (aG P) (n aR (f ac) z) (f bj))) (n aH (n ab (n ac (f bx) z) (f a4)) (n ax (n a5 (f bz) z) (f ac)))) (n af (n aa (n aI (n aJ (f ac) z) (f bb)) (n aK (n ac (f bL) z) (f bc))) gP)))
theorem te16015267058893151777:tw16015267058893151777=tw16015267058893151777:=rfl
def tw16271241066576961378:Params→BT:=fun P=>n (boot_o_0 P) (n (boot_o_1 P) (n (gd P) (n (boot_o_7 P) (n aa (n az (f (aL P)) (f aZ)) (n ag (f aS) z)) (n ab (n ah (f aM) (f a6)) (n aa (f (a0 P)) z))) (n aa (n aA (n ab (f aN) (f (a7 P))) (n aa (f aT) z)) (n ai (n aj (f (aU P)) (f a8)) (n aB (f a1) z)))) (n (boot_o_5 P) (n (boot_o_9 P) (n ak (n al (f ab) (f ad)) (n ac (f (aO P)) z)) (n aa (n aa (f ad) (f (a2 P))) (n (ty (cl (S "PatchError") [(w "ValueError")] [(r 57),(w "ValueError"),(w "Exception"),(w "BaseException"),(w "object")] 56 (S "PatchError") true [] [(r 70),(r 82),(r 94),(r 106)] false none false) [(k (r 48)),none,(k (v "PatchError" 238)),(k (v "PatchError" 246)),(k (b "ValueError.__new__")),(k (vl true))]) (f ab) z))) (n ae (n am (n aa (f (aC P)) (f ab)) (n aD (f ad) z)) (n aa (n aE (f ab) z) (n ad (f (aV P)) z))))) (n (boot_o_2 P) (n (boot_o_4 P) (n (boot_o_8 P) gQ (n ap (n aq (f aP) (f aa)) (n (ar P) (f aa) z))) (n (l3 [(1,0,20),(5,0,27),(13,0,32),(18,0,39),(23,0,46),(34,0,53),(36,0,66),(38,0,78),(40,0,90),(42,0,102)]) (n au (n av (f aa) (f aa)) (n ab (f aW) z)) gR)) (n (boot_o_6 P) (n (boot_o_10 P) (n aa (n aa (f aQ) (f ac)) (n (aG P) (f aR) z)) gS) (n af (n aa (n aI (f aJ) (f bb)) (n aK (f ac) z)) gT)))
theorem te16271241066576961378:tw16271241066576961378=tw16271241066576961378:=rfl
def tw16676374337504733411:Params→BT:=fun P=>n (boot_o_0 P) (n (boot_o_1 P) (n (gg P) (n (boot_o_7 P) (n aa (n az (n (aL P) (n bk (f aa) z) (f bN)) (n aZ (n (bO P) (f cI) z) (f aa))) (n ag (n aS (n br (f aa) z) (f bP)) (n (bd P) (n bA (f c7) z) (f cv)))) (n ab (n ah (n aM (n (bs P) (f cw) z) (f aa)) (n a6 gL (f bQ))) (n aa (n (a0 P) (n bB (f ab) z) (f bR)) (n be (n cg (f c8) z) (f aa))))) (n aa (n aA (n ab (n aN (n bl (f aa) z) (f bS)) (n (a7 P) (n bT (f cJ) z) (f bU))) (n aa (n aT (n (bC P) (f c9) z) (f bV)) (n bf (n ac (f (cK P)) z) (f aa)))) (n ai (n aj (n (aU P) (n bt (f aa) z) (f bW)) (n a8 (n bD (f aa) z) (f cx))) (n aB (n a1 (n bE (f cL) z) (f aa)) (n (bm P) (f bX) (f cy)))))) (n (boot_o_5 P) (n (boot_o_9 P) (n ak (n al (n ab (n (bg P) (f cz) z) (f (bY P))) (n ad (n bZ (f da) z) (f ch))) (n ac (n (aO P) (n ad (f cM) z) (f aa)) (n ab (n b0 (f cN) z) (f ab)))) (n aa (n aa (n ad gU (f ci)) (n (a2 P) (n bF (f cO) z) (f aa))) (n bu (n ab (n (bv P) (f aa) z) (f ab)) (n ad (f aa) (f cP))))) (n ae (n am (n aa (n (aC P) (n ad (f cQ) z) (f cj)) (n ab gV (f ab))) (n aD (n ad (n ab (f cR) z) (f ck)) (n (a9 P) (n aa (f cS) z) (f cA)))) (n aa (n aE (n ab (n (bn P) (f db) z) (f ab)) (n ad (n bG (f cT) z) (f cU))) (n ad (n (aV P) gL (f b1)) (n ab (f cm) (f ab))))))) (n (boot_o_2 P) (n (boot_o_4 P) (n (boot_o_8 P) (n ab (n an (n aa (n aa (f cV) z) (f b2)) (n a3 gL (f ab))) (n ao (n aa (n bw (f ab) z) (f b3)) (n aa (n b4 (f cW) z) (f aa)))) (n ap (n aq (n aP gL (f ab)) (n aa (n b5 (f dc) z) (f b6))) (n (ar P) (n aa (n aa (f cX) z) (f aa)) (n bh (n cn (f df) z) (f ab))))) (n (l3 [(1,0,20),(5,0,27),(13,0,32),(18,0,39),(23,0,46),(34,0,53),(36,0,66),(38,0,78),(40,0,90),(42,0,102),(44,0,114),(46,0,126),(48,0,138),(50,0,150),(53,0,162),(60,0,183),(68,0,202),(74,0,207),(79,0,214),(88,0,221),(94,0,226),(101,0,231),(104,0,238),(114,0,245),(120,0,250),(136,0,257),(141,0,262),(156,0,269)]) (n au (n av (n aa (n bo (f ab) z) (f b7)) (n aa gL (f aa))) (n ab (n aW (n aa (f cY) z) (f aa)) (n aa (n (cp P) (f cZ) z) (f c0)))) (n aw (n aa (n aa (n aa (f dg) z) (f aa)) (n ba (n (bH P) (f ab) z) (f aa))) (n aF (n aa (n bI (f c1) z) (f cq)) gK)))) (n (boot_o_6 P) (n (boot_o_10 P) (n aa (n aa (n aQ (n bi (f cB) z) (f b8)) (n ac (n b9 (f c2) z) (f ca))) (n (aG P) (n aR (n ac (f aa) z) (f ab)) (n bj (n aa (f c3) z) (f cC)))) (n aH (n ab (n ac (n bx (f (dh P)) z) (f cb)) (n a4 (n bJ (f c4) z) (f ab))) (n ax (n a5 (n bz (f di) z) (f cc)) (n ac (f ab) (f cD))))) (n af (n aa (n aI (n aJ (n ac (f cE) z) (f cr)) (n bb (n bK (f c5) z) (f cs))) (n aK (n ac (n bL (f aa) z) (f cd)) (n bc (n ct (f c6) z) (f cF)))) (n ab (n ay (n aX (n bp (f dj) z) (f cu)) (n ac (n bM (f aa) z) (f cG))) (n ac (n aY (n ac (f ab) z) (f ce)) (n bq (f cf) (f cH)))))))
theorem te16676374337504733411:tw16676374337504733411=tw16676374337504733411:=rfl
def tw1714694635643196938:Params→BT:=fun P=>n (boot_o_0 P) (n (boot_o_1 P) (n (eY P) (n (boot_o_7 P) (n aa (n az (n (aL P) (n bk (n aa (f fQ) z) (f d9)) (n bN (n dk (f eZ) z) (f ab))) (n aZ (n (bO P) (n cI (f e0) z) (f aa)) (n aa (f ea) (f aa)))) (n ag (n aS (n br (n aa (f e1) z) (f aa)) (n bP (f ab) (f eb))) (n (bd P) (n bA (n c7 (f e2) z) (f e3)) (n cv (f aa) (f ec))))) (n ab (n ah (n aM (n (bs P) (n cw (f e4) z) (f aa)) (n aa (n aa (f (fv "law" "law" (x 53))) z) (f e5))) (n a6 (n aa gW (f aa)) (n bQ (f dA) (f ab)))) (n aa (n (a0 P) (n bB (n ab (f e6) z) (f dB)) (n bR (f dC) (f ed))) (n be (n cg (n c8 (f aa) z) (f aa)) (n aa (f ab) (f ee)))))) (n aa (n aA (n ab (n aN (n bl gW (f ab)) (n bS (n aa (f e7) z) (f ef))) (n (a7 P) (n bT (n cJ (f fS) z) (f dD)) (n bU (f dE) (f e8)))) (n aa (n aT (n (bC P) (n c9 (f e9) z) (f aa)) (n bV (f dl) (f eg))) (n bf (n ac (n (cK P) (f fa) z) (f ab)) (n aa (f eh) (f ei))))) (n ai (n aj (n (aU P) (n bt (n aa (f fb) z) (f dF)) (n bW (f dG) (f ab))) (n a8 (n bD (n aa (f fc) z) (f aa)) (n cx (f aa) (f ej)))) (n aB (n a1 (n bE (n cL (f fe) z) (f aa)) (n aa (f ac) (f aa))) (n (bm P) (n bX (n dm (f aa) z) (f ff)) (n cy (f dH) (f aa))))))) (n (boot_o_5 P) (n (boot_o_9 P) (n ak (n al (n ab (n (bg P) (n cz (f fg) z) (f dI)) (n (bY P) gV (f aa))) (n ad (n bZ (n da (f aa) z) (f ek)) (n ch (f aa) (f el)))) (n ac (n (aO P) (n ad (n cM (f ab) z) (f dJ)) gK) (n ab (n b0 (n cN (f fT) z) (f em)) (n ab (f dK) (f fh))))) (n aa (n aa (n ad (n ab (n ac (f aa) z) (f en)) (n ci (n dn (f fi) z) (f eo))) (n (a2 P) (n bF (n cO (f aa) z) (f dL)) gX)) (n bu (n ab (n (bv P) (n aa (f fU) z) (f ab)) (n ab (f dp) (f ab))) (n ad (n aa (n aa (f fj) z) (f ep)) (n cP (f aa) (f fk)))))) (n ae (n am (n aa (n (aC P) (n ad (n cQ (f aa) z) (f dM)) (n cj (n dq (f aa) z) (f aa))) (n ab (n ab (n ab (f fm) z) (f ab)) (n ab (f eq) (f er)))) (n aD (n ad (n ab (n cR (f aa) z) (f es)) (n ck (f aa) (f fo))) (n (a9 P) (n aa (n cS (f ab) z) (f et)) (n cA (f dN) (f (eu P)))))) (n aa (n aE (n ab (n (bn P) (n db (f fV) z) (f ab)) (n ab (f dr) (f aa))) (n ad (n bG (n cT (f aa) z) (f ev)) (n cU (f dO) (f aa)))) (n ad (n (aV P) (n aa gW (f dP)) (n b1 (f aa) (f ew))) (n ab (n cm (n dQ (f fW) z) (f ex)) (n ab (f aa) (f fp)))))))) (n (boot_o_2 P) (n (boot_o_4 P) (n (boot_o_8 P) (n ab (n an (n aa (n aa (n cV (f fq) z) (f dR)) (n b2 gL (f ey))) (n a3 (n aa (n aa (f fs) z) (f ab)) (n ab (f ez) (f ab)))) (n ao (n aa (n bw (n ab (f aa) z) (f eA)) (n b3 (f ds) (f eB))) (n aa (n b4 (n cW (f aa) z) (f eC)) gX))) (n ap (n aq (n aP (n aa (n aa (f ft) z) (f ab)) (n ab (n ab (f fu) z) (f eD))) (n aa (n b5 (n dc (f fw) z) (f eE)) (n b6 (f aa) (f eF)))) (n (ar P) (n aa (n aa (n cX (f aa) z) (f aa)) (n aa (f du) (f aa))) (n bh (n cn (n df (f fX) z) (f ab)) (n ab (f dS) (f eG)))))) (n fY (n au (n av (n aa (n bo (n ab (f fx) z) (f eH)) (n b7 (n dT (f fy) z) (f eI))) (n aa (n aa (n aa (f fz) z) (f aa)) (n aa (f aa) (f eJ)))) (n ab (n aW (n aa (n cY (f fA) z) (f ab)) (n aa (f dv) (f aa))) (n aa (n (cp P) (n cZ (f aa) z) (f fB)) (n c0 (f dU) (f eK))))) (n aw (n aa (n aa (n aa (n dg (f aa) z) (f aa)) (n aa (f dw) (f eL))) (n ba (n (bH P) (n ab (f fC) z) (f ab)) (n aa (f eM) (f eN)))) (n aF (n aa (n bI (n c1 (f aa) z) (f eO)) (n cq (f (fD P)) (f fE))) (n aa (n aa gW (f eP)) (n aa (f dV) (f ab))))))) (n (boot_o_6 P) (n (boot_o_10 P) (n aa (n aa (n aQ (n bi (n cB (f aa) z) (f aa)) (n b8 (n dx (f fZ) z) (f fF))) (n ac (n b9 (n c2 (f ab) z) (f dW)) (n ca (f ab) (f aa)))) (n (aG P) (n aR (n ac (n aa (f f0) z) (f dX)) (n ab (f dY) (f ab))) (n bj (n aa (n c3 (f fG) z) (f aa)) (n cC (f aa) (f eQ))))) (n aH (n ab (n ac (n bx (n (dh P) (f ab) z) (f dZ)) (n cb (f aa) (f aa))) (n a4 (n bJ (n c4 (f f1) z) (f eR)) (n ab (f d0) (f fH)))) (n ax (n a5 (n bz (n di (f fI) z) (f d1)) (n cc (f aa) (f eS))) (n ac (n ab (n ab (f fJ) z) (f aa)) (n cD (f eT) (f fK)))))) (n af (n aa (n aI (n aJ (n ac (n cE (f f2) z) (f d2)) (n cr (n dy (f ab) z) (f ab))) (n bb (n bK (n c5 (f aa) z) (f d3)) (n cs (f d4) (f aa)))) (n aK (n ac (n bL gW (f d5)) (n cd (f ab) (f eU))) (n bc (n ct (n c6 (f fL) z) (f eV)) (n cF (f aa) (f eW))))) (n ab (n ay (n aX (n bp (n dj (f fM) z) (f d6)) (n cu (f aa) (f fN))) (n ac (n bM gW (f aa)) (n cG (f d7) (f ab)))) (n ac (n aY (n ac (n ab (f f3) z) (f d8)) (n ce (f fO) (f eX))) (n bq (n cf (n dz (f fP) z) (f aa)) (n cH (f ab) (f aa))))))))
theorem te1714694635643196938:tw1714694635643196938=tw1714694635643196938:=rfl
def tw10806812460720359056:Params→BT:=fun P=>n (boot_o_0 P) (n (boot_o_1 P) (n (gi P) (n (boot_o_7 P) (n aa (n az (f (aL P)) (f aZ)) (n ag (f aS) (f (bd P)))) (n ab (n ah (f aM) (f a6)) (n aa (f (a0 P)) (f be)))) (n aa (n aA (n ab (f aN) (f (a7 P))) (n aa (f aT) (f bf))) (n ai (n aj (f (aU P)) (f a8)) (n aB (f a1) z)))) (n (boot_o_5 P) (n (boot_o_9 P) (n ak (n al (f ab) (f ad)) (n ac (f (aO P)) (f ab))) (n aa (n aa (f ad) (f (a2 P))) (n (ty (cl (S "PatchError") [(w "ValueError")] [(r 57),(w "ValueError"),(w "Exception"),(w "BaseException"),(w "object")] 56 (S "PatchError") true [] [(r 70),(r 82),(r 94),(r 106),(r 118)] false none false) [(k (r 48)),none,(k (v "PatchError" 238)),(k (v "PatchError" 246)),(k (b "ValueError.__new__")),(k (vl true))]) (f ab) z))) (n ae (gY P) (n aa (n aE (f ab) (f ad)) (n ad (f (aV P)) z))))) (n (boot_o_2 P) (n (boot_o_4 P) (n (boot_o_8 P) (n ab (n an (f aa) (f a3)) (n ao (f aa) (f aa))) (n ap (n aq (f aP) (f aa)) (n (ar P) (f aa) (f bh)))) (n (l3 [(1,0,20),(5,0,27),(13,0,32),(18,0,39),(23,0,46),(34,0,53),(36,0,66),(38,0,78),(40,0,90),(42,0,102),(44,0,114)]) (n au (n av (f aa) (f aa)) (n ab (f aW) (f aa))) gR)) (n (boot_o_6 P) (n (boot_o_10 P) (n aa (n aa (f aQ) (f ac)) (n (aG P) (f aR) (f bj))) gS) (n af gZ (n ab (n ay (f aX) (f ac)) (n ac (f aY) z)))))
theorem te10806812460720359056:tw10806812460720359056=tw10806812460720359056:=rfl
noncomputable def tw3373020197091284723:Params→BT:=fun P=>n (boot_o_0 P) (n (boot_o_1 P) (n (f4 P) (n (boot_o_7 P) (n aa (n az (n (aL P) (n bk (f aa) (f d9)) (n bN (f dk) z)) (n aZ (n (bO P) (f cI) (f aa)) (n aa (f ea) z))) (n ag (n aS (n br (f aa) (f aa)) (n bP (f ab) z)) (n (bd P) (n bA (f c7) z) (n cv (f aa) z)))) (n ab (n ah (n aM (n (bs P) (f cw) (f aa)) gL) (n a6 gK (n bQ (f dA) z))) (n aa (n (a0 P) (n bB (f ab) (f dB)) (n bR (f dC) z)) (n be (n cg (f c8) z) gW)))) (n aa (n aA (n ab (n aN (n bl (f aa) (f ab)) (n bS (f aa) z)) (n (a7 P) (n bT (f cJ) (f dD)) (n bU (f dE) z))) (n aa (n aT (n (bC P) (f c9) (f aa)) (n bV (f dl) z)) (n bf (n ac (f (cK P)) z) (n aa (f eh) z)))) (n ai (n aj (n (aU P) (n bt (f aa) (f dF)) (n bW (f dG) z)) (n a8 (n bD (f aa) z) (n cx (f aa) z))) (n aB (n a1 (n bE (f cL) (f aa)) (n aa (f ac) z)) (n (bm P) (n bX (f dm) z) (n cy (f dH) z)))))) (n (boot_o_5 P) (n (boot_o_9 P) (n ak (n al (n ab (n (bg P) (f cz) (f dI)) (n (bY P) (f ab) z)) (n ad (n bZ (f da) (f ek)) (n ch (f aa) z))) (n ac (n (aO P) (n ad (f cM) (f dJ)) gL) (n ab (n b0 (f cN) z) (n ab (f dK) z)))) (n aa (n aa (n ad (n ab (f ac) (f en)) (n ci (f dn) z)) (n (a2 P) (n bF (f cO) (f dL)) gW)) (n bu (n ab (n (bv P) (f aa) (f ab)) (n ab (f dp) z)) (n ad gL (n cP (f aa) z))))) (n ae (n am (n aa (n (aC P) (n ad (f cQ) (f dM)) (n cj (f dq) z)) (n ab gI (n ab (f eq) z))) (n aD (n ad (n ab (f cR) (f es)) (n ck (f aa) z)) (n (a9 P) (n aa (f cS) z) (n cA (f dN) z)))) (n aa (n aE (n ab (n (bn P) (f db) (f ab)) (n ab (f dr) z)) (n ad (n bG (f cT) z) (n cU (f dO) z))) (n ad (n (aV P) (n aa (f aa) (f dP)) (n b1 (f aa) z)) (n ab (n cm (f dQ) z) (n ab (f aa) z))))))) (n (boot_o_2 P) (n (boot_o_4 P) (n (boot_o_8 P) (n ab (n an (n aa (n aa (f cV) (f dR)) (n b2 (f aa) z)) (n a3 g0 (n ab (f ez) z))) (n ao (n aa (n bw (f ab) (f eA)) (n b3 (f ds) z)) (n aa (n b4 (f cW) z) gW))) (n ap (n aq (n aP g0 gV) (n aa (n b5 (f dc) (f eE)) (n b6 (f aa) z))) (n (ar P) (n aa (n aa (f cX) (f aa)) (n aa (f du) z)) (n bh (n cn (f df) z) (n ab (f dS) z))))) (n f5 (n au (n av (n aa (n bo (f ab) (f eH)) (n b7 (f dT) z)) (n aa gK gL)) (n ab (n aW (n aa (f cY) (f ab)) (n aa (f dv) z)) (n aa (n (cp P) (f cZ) z) (n c0 (f dU) z)))) (n aw (n aa (n aa (n aa (f dg) (f aa)) (n aa (f dw) z)) (n ba (n (bH P) (f ab) z) (n aa (f eM) z))) (n aF (n aa (n bI (f c1) (f eO)) (n cq (f (dt [(d P "__module__" 673 (v "patchkin.desk" 612)),(d P "__qualname__" 675 (v "Desk" 674)),(d P "__firstlineno__" 677 (vi 229 676)),(d P "__init__" 684 (r 359)),(d P "begin" 692 (r 366)),(d P "stores" 699 (r 373)),(d P "patches" 706 (r 380)),(d P "has" 712 (r 385)),(d P "record" 718 (r 390)),(d P "cut" 724 (r 395)),(d P "back" 734 (r 402)),(d P "take" 740 (r 407)),(d P "drop" 750 (r 414)),(d P "leans" 756 (r 419))] 14)) z)) (n aa gL (n aa (f dV) z)))))) (n (boot_o_6 P) (n (boot_o_10 P) (n aa (n aa (n aQ (n bi (f cB) (f aa)) (n b8 (f dx) z)) (n ac (n b9 (f c2) (f dW)) (n ca (f ab) z))) (n (aG P) (n aR (n ac (f aa) (f dX)) (n ab (f dY) z)) (n bj (n aa (f c3) z) (n cC (f aa) z)))) (n aH (n ab (n ac (n bx (f (dh P)) (f dZ)) (n cb (f aa) z)) (n a4 (n bJ (f c4) z) (n ab (f d0) z))) (n ax (n a5 (n bz (f di) (f d1)) (n cc (f aa) z)) (n ac gV (n cD (f eT) z))))) (n af (n aa (n aI (n aJ (n ac (f cE) (f d2)) (n cr (f dy) z)) (n bb (n bK (f c5) (f d3)) (n cs (f d4) z))) (n aK (n ac (n bL (f aa) (f d5)) (n cd (f ab) z)) (n bc (n ct (f c6) z) (n cF (f aa) z)))) (n ab (n ay (n aX (n bp (f dj) (f d6)) (n cu (f aa) z)) (n ac (n bM (f aa) z) (n cG (f d7) z))) (n ac (n aY (n ac (f ab) (f d8)) (n ce (f (l3 [(231,4,358),(236,4,365),(242,4,372),(245,4,379),(248,4,384),(252,4,389),(262,4,394),(271,4,401),(277,4,406),(287,4,413),(295,4,418),(299,4,425)])) z)) (n bq (n cf (f dz) z) (n cH (f ab) z)))))))
theorem te3373020197091284723:tw3373020197091284723=tw3373020197091284723:=rfl
def tw17073507112242618741:Params→BT:=fun P=>n (boot_o_0 P) (n (boot_o_1 P) (n (boot_o_3 P) (f (boot_o_7 P)) (f aa)) (n (boot_o_5 P) (f (boot_o_9 P)) (f ae))) (n (boot_o_2 P) (n (boot_o_4 P) (f (boot_o_8 P)) (f ab)) (n (boot_o_6 P) (f (boot_o_10 P)) (f af)))
theorem te17073507112242618741:tw17073507112242618741=tw17073507112242618741:=rfl
def tw27449872665592886:Params→BT:=fun P=>n (boot_o_0 P) (n (boot_o_1 P) (n (gn P) (n (boot_o_7 P) (n aa (n az (n (aL P) (n bk (f aa) z) (f bN)) (n aZ (f (bO P)) (f aa))) (n ag (n aS (f br) (f bP)) (n (bd P) (f bA) (f cv)))) (n ab (n ah (n aM (n (bs P) (f cw) z) (f aa)) (n a6 (f aa) (f bQ))) (n aa (n (a0 P) (f bB) (f bR)) (n be (f cg) (f aa))))) (n aa (n aA (n ab (n aN (n bl (f aa) z) (f bS)) (n (a7 P) (f bT) (f bU))) (n aa (n aT (f (bC P)) (f bV)) (n bf (f ac) (f aa)))) (n ai (n aj (n (aU P) (f bt) (f bW)) (n a8 (f bD) (f cx))) (n aB (n a1 (f bE) (f aa)) (n (bm P) (f bX) (f cy)))))) (n (boot_o_5 P) (n (boot_o_9 P) (n ak (n al (n ab (n (bg P) (f cz) z) (f (bY P))) (n ad (f bZ) (f ch))) (n ac (n (aO P) (f ad) (f aa)) (n ab (f b0) (f ab)))) (n aa (n aa (n ad (f ab) (f ci)) (n (a2 P) (f bF) (f aa))) (n bu (n ab (f (bv P)) (f ab)) (n ad (f aa) (f cP))))) (n ae (n am (n aa (n (aC P) (n ad (f cQ) z) (f cj)) gI) (n aD (n ad (f ab) (f ck)) (n (a9 P) (f aa) (f cA)))) (n aa (n aE (n ab (f (bn P)) (f ab)) (n ad (f bG) (f cU))) (n ad (n (aV P) (f aa) (f b1)) (n ab (f cm) (f ab))))))) (n (boot_o_2 P) (n (boot_o_4 P) (n (boot_o_8 P) (n ab (n an (n aa (n aa (f cV) z) (f b2)) (n a3 (f aa) (f ab))) (n ao (n aa (f bw) (f b3)) (n aa (f b4) (f aa)))) (n ap gJ (n (ar P) gK (n bh (f cn) (f ab))))) (n (l3 [(1,0,20),(5,0,27),(13,0,32),(18,0,39),(23,0,46),(34,0,53),(36,0,66),(38,0,78),(40,0,90),(42,0,102),(44,0,114),(46,0,126),(48,0,138),(50,0,150),(53,0,162),(60,0,183),(68,0,202),(74,0,207),(79,0,214),(88,0,221),(94,0,226),(101,0,231),(104,0,238),(114,0,245),(120,0,250),(136,0,257),(141,0,262)]) (n au (n av (n aa (n bo (f ab) z) (f b7)) gK) (n ab (n aW (f aa) (f aa)) (n aa (f (cp P)) (f c0)))) (n aw (n aa gK (n ba (f (bH P)) (f aa))) (n aF (n aa (f bI) (f cq)) gK)))) (n (boot_o_6 P) (n (boot_o_10 P) (n aa (n aa (n aQ (n bi (f cB) z) (f b8)) (n ac (f b9) (f ca))) (n (aG P) (n aR (f ac) (f ab)) (n bj (f aa) (f cC)))) (n aH (n ab (n ac (f bx) (f cb)) (n a4 (f bJ) (f ab))) (n ax (n a5 (f bz) (f cc)) (n ac (f ab) (f cD))))) (n af (n aa (n aI (n aJ (n ac (f cE) z) (f cr)) (n bb (f bK) (f cs))) (n aK (n ac (f bL) (f cd)) (n bc (f ct) (f cF)))) (n ab (n ay (n aX (f bp) (f cu)) (n ac (f bM) (f cG))) (n ac (n aY (f ac) (f ce)) (n bq (f cf) (f cH)))))))
theorem te27449872665592886:tw27449872665592886=tw27449872665592886:=rfl
def tw1254262467693952184:Params→BT:=fun P=>n (boot_o_0 P) (n (boot_o_1 P) (n (f4 P) (n (boot_o_7 P) (n aa (n az (n (aL P) (n bk (f aa) z) (n bN (f dk) z)) (n aZ (n (bO P) (f cI) z) (f aa))) (n ag (n aS (n br (f aa) z) (n bP (f ab) z)) (n (bd P) (n bA (f c7) z) (f cv)))) (n ab (n ah (n aM (n (bs P) (f cw) z) gL) (n a6 gL (f bQ))) (n aa (n (a0 P) (n bB (f ab) z) (n bR (f dC) z)) (n be (n cg (f c8) z) (f aa))))) (n aa (n aA (n ab (n aN (n bl (f aa) z) (n bS (f aa) z)) (n (a7 P) (n bT (f cJ) z) (f bU))) (n aa (n aT (n (bC P) (f c9) z) (n bV (f dl) z)) (n bf (n ac (f (cK P)) z) (f aa)))) (n ai (n aj (n (aU P) (n bt (f aa) z) (n bW (f dG) z)) (n a8 (n bD (f aa) z) (f cx))) (n aB (n a1 (n bE (f cL) z) (f aa)) (n (bm P) (n bX (f dm) z) (f cy)))))) (n (boot_o_5 P) (n (boot_o_9 P) (n ak (n al (n ab (n (bg P) (f cz) z) (n (bY P) (f ab) z)) (n ad (n bZ (f da) z) (f ch))) (n ac (n (aO P) (n ad (f cM) z) gL) (n ab (n b0 (f cN) z) (f ab)))) (n aa (n aa (n ad gU (n ci (f dn) z)) (n (a2 P) (n bF (f cO) z) (f aa))) (n bu (n ab (n (bv P) (f aa) z) (n ab (f dp) z)) (n ad gL (f cP))))) (n ae (n am (n aa (n (aC P) (n ad (f cQ) z) (n cj (f dq) z)) (n ab gV (f ab))) (n aD (n ad (n ab (f cR) z) (n ck (f aa) z)) (n (a9 P) (n aa (f cS) z) (f cA)))) (n aa (n aE (n ab (n (bn P) (f db) z) (n ab (f dr) z)) (n ad (n bG (f cT) z) (f cU))) (n ad (n (aV P) gL (f b1)) (n ab (n cm (f dQ) z) (f ab))))))) (n (boot_o_2 P) (n (boot_o_4 P) (n (boot_o_8 P) (n ab (n an (n aa (n aa (f cV) z) (n b2 (f aa) z)) (n a3 gL (f ab))) (n ao (n aa (n bw (f ab) z) (n b3 (f ds) z)) (n aa (n b4 (f cW) z) (f aa)))) (n ap (n aq (n aP gL gV) (n aa (n b5 (f dc) z) (f b6))) (n (ar P) (n aa (n aa (f cX) z) (n aa (f du) z)) (n bh (n cn (f df) z) (f ab))))) (n (l3 [(1,0,20),(5,0,27),(13,0,32),(18,0,39),(23,0,46),(34,0,53),(36,0,66),(38,0,78),(40,0,90),(42,0,102),(44,0,114),(46,0,126),(48,0,138),(50,0,150),(53,0,162),(60,0,183),(68,0,202),(74,0,207),(79,0,214),(88,0,221),(94,0,226),(101,0,231),(104,0,238),(114,0,245),(120,0,250),(136,0,257),(141,0,262),(156,0,269),(193,0,318),(199,0,325),(205,0,332),(210,0,339),(221,0,344)]) (n au (n av (n aa (n bo (f ab) z) (n b7 (f dT) z)) (n aa gL (f aa))) (n ab (n aW (n aa (f cY) z) (n aa (f dv) z)) (n aa (n (cp P) (f cZ) z) (f c0)))) (n aw (n aa (n aa (n aa (f dg) z) (n aa (f dw) z)) (n ba (n (bH P) (f ab) z) (f aa))) (n aF (n aa (n bI (f c1) z) (f cq)) (n aa gL (f aa)))))) (n (boot_o_6 P) (n (boot_o_10 P) (n aa (n aa (n aQ (n bi (f cB) z) (n b8 (f dx) z)) (n ac (n b9 (f c2) z) (f ca))) (n (aG P) (n aR (n ac (f aa) z) (n ab (f dY) z)) (n bj (n aa (f c3) z) (f cC)))) (n aH (n ab (n ac (n bx (f (dh P)) z) (n cb (f aa) z)) (n a4 (n bJ (f c4) z) (f ab))) (n ax (n a5 (n bz (f di) z) (f cc)) (n ac gV (f cD))))) (n af (n aa (n aI (n aJ (n ac (f cE) z) (n cr (f dy) z)) (n bb (n bK (f c5) z) (f cs))) (n aK (n ac (n bL (f aa) z) (n cd (f ab) z)) (n bc (n ct (f c6) z) (f cF)))) (n ab (n ay (n aX (n bp (f dj) z) (n cu (f aa) z)) (n ac (n bM (f aa) z) (f cG))) (n ac (n aY (n ac (f ab) z) (f ce)) (n bq (n cf (f dz) z) (f cH)))))))
theorem te1254262467693952184:tw1254262467693952184=tw1254262467693952184:=rfl
def tw5593398787216868696:Params→BT:=fun P=>n (boot_o_0 P) (n (boot_o_1 P) (n (gq P) (n (boot_o_7 P) (n aa (n az (n (aL P) (f bk) z) (f aZ)) (n ag (f aS) (f (bd P)))) (n ab (n ah (f aM) (f a6)) (n aa (f (a0 P)) (f be)))) (n aa (g1 P) (n ai (n aj (f (aU P)) (f a8)) (n aB (f a1) (f (bm P)))))) (n (boot_o_5 P) (n (boot_o_9 P) (g2 P) (n aa (n aa (f ad) (f (a2 P))) (n (ty (cl (S "PatchError") [(w "ValueError")] [(r 57),(w "ValueError"),(w "Exception"),(w "BaseException"),(w "object")] 56 (S "PatchError") true [] [(r 70),(r 82),(r 94),(r 106),(r 118),(r 130)] false none false) [(k (r 48)),none,(k (v "PatchError" 238)),(k (v "PatchError" 246)),(k (b "ValueError.__new__")),(k (vl true))]) (f ab) (f ad)))) (n ae (gY P) (n aa (n aE (f ab) (f ad)) (n ad (f (aV P)) (f ab)))))) (n (boot_o_2 P) (n (boot_o_4 P) (n (boot_o_8 P) (n ab (n an gL (f a3)) (n ao (f aa) (f aa))) (n ap (n aq (f aP) (f aa)) (n (ar P) (f aa) (f bh)))) (n (l3 [(1,0,20),(5,0,27),(13,0,32),(18,0,39),(23,0,46),(34,0,53),(36,0,66),(38,0,78),(40,0,90),(42,0,102),(44,0,114),(46,0,126)]) g3 (n aw (n aa (f aa) (f ba)) (n aF (f aa) (f aa))))) (n (boot_o_6 P) (n (boot_o_10 P) (g4 P) (n aH (n ab (f ac) (f a4)) (n ax (f a5) (f ac)))) (n af gZ (n ab (n ay (f aX) (f ac)) (n ac (f aY) (f bq))))))
theorem te5593398787216868696:tw5593398787216868696=tw5593398787216868696:=rfl
def tw10859726417064342011:Params→BT:=fun P=>n (boot_o_0 P) (n (boot_o_1 P) (n (gt P) (n (boot_o_7 P) (n aa (f az) (f ag)) (n ab (f ah) (f aa))) (n aa (n aA (f ab) (f aa)) (n ai (f aj) (f aB)))) (n (boot_o_5 P) (n (boot_o_9 P) (n ak (f al) (f ac)) (n aa (f aa) (f (ty (cl (S "PatchError") [(w "ValueError")] [(r 57),(w "ValueError"),(w "Exception"),(w "BaseException"),(w "object")] 56 (S "PatchError") true [] [] false none false) [(k (r 48)),none,(k (v "PatchError" 238)),(k (v "PatchError" 246)),(k (b "ValueError.__new__")),(k (vl true))])))) (n ae (n am (f aa) (f aD)) (n aa (f aE) z)))) (n (boot_o_2 P) (n (boot_o_4 P) (n (boot_o_8 P) (n ab (f an) (f ao)) (n ap (f aq) (f (ar P)))) (n (l3 [(1,0,20),(5,0,27),(13,0,32),(18,0,39),(23,0,46),(34,0,53)]) (n au (f av) (f ab)) (n aw (f aa) (f aF)))) (n (boot_o_6 P) (n (boot_o_10 P) (n aa (f aa) (f (aG P))) (n aH (f ab) (f ax))) (n af (n aa (f aI) (f aK)) (n ab (f ay) z))))
theorem te10859726417064342011:tw10859726417064342011=tw10859726417064342011:=rfl
def tw8320586439140351803:Params→BT:=fun P=>n (boot_o_0 P) (n (boot_o_1 P) (n (gw P) (n (boot_o_7 P) (n aa (n az (f (aL P)) (f aZ)) (n ag (f aS) z)) (n ab (n ah (f aM) z) (n aa (f (a0 P)) z))) (n aa g5 (n ai (n aj (f (aU P)) z) (n aB (f a1) z)))) (n (boot_o_5 P) (n (boot_o_9 P) (n ak (n al (f ab) z) (n ac (f (aO P)) z)) (n aa (n aa (f ad) z) (n (ty (cl (S "PatchError") [(w "ValueError")] [(r 57),(w "ValueError"),(w "Exception"),(w "BaseException"),(w "object")] 56 (S "PatchError") true [] [(r 70),(r 82),(r 94)] false none false) [(k (r 48)),none,(k (v "PatchError" 238)),(k (v "PatchError" 246)),(k (b "ValueError.__new__")),(k (vl true))]) (f ab) z))) (n ae (n am (n aa (f (aC P)) z) (n aD (f ad) z)) (n aa (n aE (f ab) z) (n ad (f (aV P)) z))))) (n (boot_o_2 P) (n (boot_o_4 P) (n (boot_o_8 P) gQ (n ap (n aq (f aP) z) (n (ar P) (f aa) z))) (n (l3 [(1,0,20),(5,0,27),(13,0,32),(18,0,39),(23,0,46),(34,0,53),(36,0,66),(38,0,78),(40,0,90)]) g6 (n aw gL (n aF (f aa) z)))) (n (boot_o_6 P) (n (boot_o_10 P) (n aa (n aa (f aQ) z) (n (aG P) (f aR) z)) (n aH gU (n ax (f a5) z))) (n af (n aa (n aI (f aJ) z) (n aK (f ac) z)) gT)))
theorem te8320586439140351803:tw8320586439140351803=tw8320586439140351803:=rfl
def tw18231507752683493596:Params→BT:=fun P=>n (boot_o_0 P) (n (boot_o_1 P) (n (gz P) (n (boot_o_7 P) (n aa (n az (n (aL P) (n bk (f aa) (f d9)) (n bN (f dk) (f ab))) (n aZ (n (bO P) (f cI) (f aa)) (n aa (f ea) (f aa)))) (n ag (n aS (n br (f aa) (f aa)) (n bP (f ab) (f eb))) (n (bd P) (n bA (f c7) (f e3)) (n cv (f aa) (f ec))))) (n ab (n ah (n aM (n (bs P) (f cw) (f aa)) (n aa (f aa) (f e5))) (n a6 gK (n bQ (f dA) (f ab)))) (n aa (n (a0 P) (n bB (f ab) (f dB)) (n bR (f dC) (f ed))) (n be (n cg (f c8) (f aa)) (n aa (f ab) (f ee)))))) (n aa (n aA (n ab (n aN (n bl (f aa) (f ab)) (n bS (f aa) (f ef))) (n (a7 P) (n bT (f cJ) (f dD)) (n bU (f dE) (f e8)))) (n aa (n aT (n (bC P) (f c9) (f aa)) (n bV (f dl) (f eg))) (n bf (n ac (f (cK P)) (f ab)) (n aa (f eh) (f ei))))) (n ai (n aj (n (aU P) (n bt (f aa) (f dF)) (n bW (f dG) (f ab))) (n a8 (n bD (f aa) (f aa)) (n cx (f aa) (f ej)))) (n aB (n a1 (n bE (f cL) (f aa)) (n aa (f ac) (f aa))) (n (bm P) (n bX (f dm) (f ff)) (n cy (f dH) z)))))) (n (boot_o_5 P) (n (boot_o_9 P) (n ak (n al (n ab (n (bg P) (f cz) (f dI)) (n (bY P) (f ab) (f aa))) (n ad (n bZ (f da) (f ek)) (n ch (f aa) (f el)))) (n ac (n (aO P) (n ad (f cM) (f dJ)) gK) (n ab (n b0 (f cN) (f em)) (n ab (f dK) (f fh))))) (n aa (n aa (n ad (n ab (f ac) (f en)) (n ci (f dn) (f eo))) (n (a2 P) (n bF (f cO) (f dL)) gX)) (n bu (n ab (n (bv P) (f aa) (f ab)) (n ab (f dp) (f ab))) (n ad (n aa (f aa) (f ep)) (n cP (f aa) (f fk)))))) (n ae (n am (n aa (n (aC P) (n ad (f cQ) (f dM)) (n cj (f dq) (f aa))) (n ab gI (n ab (f eq) (f er)))) (n aD (n ad (n ab (f cR) (f es)) (n ck (f aa) (f fo))) (n (a9 P) (n aa (f cS) (f et)) (n cA (f dN) (f (eu P)))))) (n aa (n aE (n ab (n (bn P) (f db) (f ab)) (n ab (f dr) (f aa))) (n ad (n bG (f cT) (f ev)) (n cU (f dO) (f aa)))) (n ad (n (aV P) (n aa (f aa) (f dP)) (n b1 (f aa) (f ew))) (n ab (n cm (f dQ) (f ex)) (n ab (f aa) z))))))) (n (boot_o_2 P) (n (boot_o_4 P) (n (boot_o_8 P) (n ab (n an (n aa (n aa (f cV) (f dR)) (n b2 (f aa) (f ey))) (n a3 g0 (n ab (f ez) (f ab)))) (n ao (n aa (n bw (f ab) (f eA)) (n b3 (f ds) (f eB))) (n aa (n b4 (f cW) (f eC)) gX))) (n ap (n aq (n aP g0 (n ab (f ab) (f eD))) (n aa (n b5 (f dc) (f eE)) (n b6 (f aa) (f eF)))) (n (ar P) (n aa (n aa (f cX) (f aa)) (n aa (f du) (f aa))) (n bh (n cn (f df) (f ab)) (n ab (f dS) (f eG)))))) (n f5 (n au (n av (n aa (n bo (f ab) (f eH)) (n b7 (f dT) (f eI))) (n aa gK (n aa (f aa) (f eJ)))) (n ab (n aW (n aa (f cY) (f ab)) (n aa (f dv) (f aa))) (n aa (n (cp P) (f cZ) (f fB)) (n c0 (f dU) (f eK))))) (n aw (n aa (n aa (n aa (f dg) (f aa)) (n aa (f dw) (f eL))) (n ba (n (bH P) (f ab) (f ab)) (n aa (f eM) (f eN)))) (n aF (n aa (n bI (f c1) (f eO)) (n cq (f (fD P)) (f fE))) (n aa (n aa (f aa) (f eP)) (n aa (f dV) z)))))) (n (boot_o_6 P) (n (boot_o_10 P) (n aa (n aa (n aQ (n bi (f cB) (f aa)) (n b8 (f dx) (f fF))) (n ac (n b9 (f c2) (f dW)) (n ca (f ab) (f aa)))) (n (aG P) (n aR (n ac (f aa) (f dX)) (n ab (f dY) (f ab))) (n bj (n aa (f c3) (f aa)) (n cC (f aa) (f eQ))))) (n aH (n ab (n ac (n bx (f (dh P)) (f dZ)) (n cb (f aa) (f aa))) (n a4 (n bJ (f c4) (f eR)) (n ab (f d0) (f fH)))) (n ax (n a5 (n bz (f di) (f d1)) (n cc (f aa) (f eS))) (n ac (n ab (f ab) (f aa)) (n cD (f eT) (f fK)))))) (n af (n aa (n aI (n aJ (n ac (f cE) (f d2)) (n cr (f dy) (f ab))) (n bb (n bK (f c5) (f d3)) (n cs (f d4) (f aa)))) (n aK (n ac (n bL (f aa) (f d5)) (n cd (f ab) (f eU))) (n bc (n ct (f c6) (f eV)) (n cF (f aa) (f eW))))) (n ab (n ay (n aX (n bp (f dj) (f d6)) (n cu (f aa) (f fN))) (n ac (n bM (f aa) (f aa)) (n cG (f d7) (f ab)))) (n ac (n aY (n ac (f ab) (f d8)) (n ce (f fO) (f eX))) (n bq (n cf (f dz) (f aa)) (n cH (f ab) z)))))))
theorem te18231507752683493596:tw18231507752683493596=tw18231507752683493596:=rfl
def tw16700398040500308157:Params→BT:=fun P=>n (boot_o_0 P) (n (boot_o_1 P) (n (gA P) (n (boot_o_7 P) (gM P) (n ab (n ah (n aM (f (bs P)) z) (f a6)) (n aa (f (a0 P)) (f be)))) (n aa (g1 P) (n ai (n aj (n (aU P) (f bt) z) (f a8)) (n aB (f a1) (f (bm P)))))) (n (boot_o_5 P) (n (boot_o_9 P) (g2 P) (n aa (n aa (n ad (f ab) z) (f (a2 P))) (n (ty (cl (S "PatchError") [(w "ValueError")] [(r 57),(w "ValueError"),(w "Exception"),(w "BaseException"),(w "object")] 56 (S "PatchError") true [] [(r 70),(r 82),(r 94),(r 106),(r 118),(r 130),(r 142)] false none false) [(k (r 48)),none,(k (v "PatchError" 238)),(k (v "PatchError" 246)),(k (b "ValueError.__new__")),(k (vl true))]) (f ab) (f ad)))) (n ae (n am (n aa (n (aC P) (f ad) z) (f ab)) (n aD (f ad) (f (a9 P)))) (gN P)))) (n (boot_o_2 P) (n (boot_o_4 P) (n (boot_o_8 P) gO (n ap (n aq (n aP (f aa) z) (f aa)) (n (ar P) (f aa) (f bh)))) (n (l3 [(1,0,20),(5,0,27),(13,0,32),(18,0,39),(23,0,46),(34,0,53),(36,0,66),(38,0,78),(40,0,90),(42,0,102),(44,0,114),(46,0,126),(48,0,138)]) g3 (n aw (n aa gL (f ba)) (n aF (f aa) (f aa))))) (n (boot_o_6 P) (n (boot_o_10 P) (g4 P) (n aH (n ab (n ac (f bx) z) (f a4)) (n ax (f a5) (f ac)))) (n af (n aa (n aI (n aJ (f ac) z) (f bb)) (n aK (f ac) (f bc))) gP)))
theorem te16700398040500308157:tw16700398040500308157=tw16700398040500308157:=rfl
def tw10197693120921700093:Params→BT:=fun P=>n (boot_o_0 P) (n (boot_o_1 P) (n (gD P) (n (boot_o_7 P) (n aa (n az (f (aL P)) z) (n ag (f aS) z)) (n ab (n ah (f aM) z) (f aa))) (n aa g5 (n ai (n aj (f (aU P)) z) (f aB)))) (n (boot_o_5 P) (n (boot_o_9 P) (n ak (n al (f ab) z) (n ac (f (aO P)) z)) (n aa (n aa (f ad) z) (f (ty (cl (S "PatchError") [(w "ValueError")] [(r 57),(w "ValueError"),(w "Exception"),(w "BaseException"),(w "object")] 56 (S "PatchError") true [] [(r 70),(r 82)] false none false) [(k (r 48)),none,(k (v "PatchError" 238)),(k (v "PatchError" 246)),(k (b "ValueError.__new__")),(k (vl true))])))) (n ae (n am (n aa (f (aC P)) z) (f aD)) (n aa (n aE (f ab) z) (f ad))))) (n (boot_o_2 P) (n (boot_o_4 P) (n (boot_o_8 P) (n ab (n an (f aa) z) (n ao (f aa) z)) (n ap (n aq (f aP) z) (f (ar P)))) (n (l3 [(1,0,20),(5,0,27),(13,0,32),(18,0,39),(23,0,46),(34,0,53),(36,0,66),(38,0,78)]) g6 (n aw gL (f aF)))) (n (boot_o_6 P) (n (boot_o_10 P) (n aa (n aa (f aQ) z) (n (aG P) (f aR) z)) (n aH gU (f ax))) (n af (n aa (n aI (f aJ) z) (f aK)) (n ab (n ay (f aX) z) (f ac)))))
theorem te10197693120921700093:tw10197693120921700093=tw10197693120921700093:=rfl
def tw11690595026838785470:Params→BT:=fun P=>n (boot_o_0 P) (n (boot_o_1 P) (n (gG P) (n (boot_o_7 P) (n aa (n az (n (aL P) (f bk) z) (n aZ (f (bO P)) z)) (n ag (n aS (f br) z) (n (bd P) (f bA) z))) (n ab (n ah (n aM (f (bs P)) z) (n a6 (f aa) z)) (n aa (n (a0 P) (f bB) z) (f be)))) (n aa (n aA (n ab (n aN (f bl) z) (n (a7 P) (f bT) z)) (n aa (n aT (f (bC P)) z) (f bf))) (n ai (n aj (n (aU P) (f bt) z) (n a8 (f bD) z)) (n aB (n a1 (f bE) z) (f (bm P)))))) (n (boot_o_5 P) (n (boot_o_9 P) (n ak (n al (n ab (f (bg P)) z) (n ad (f bZ) z)) (n ac (n (aO P) (f ad) z) (n ab (f b0) z))) (n aa (n aa (n ad (f ab) z) (n (a2 P) (f bF) z)) (n bu (n ab (f (bv P)) z) (f ad)))) (n ae (n am (n aa (n (aC P) (f ad) z) gV) (n aD (n ad (f ab) z) (f (a9 P)))) (n aa (n aE (n ab (f (bn P)) z) (n ad (f bG) z)) (n ad (n (aV P) (f aa) z) (f ab)))))) (n (boot_o_2 P) (n (boot_o_4 P) (n (boot_o_8 P) (n ab (n an gL (n a3 (f aa) z)) (n ao (n aa (f bw) z) (n aa (f b4) z))) (n ap (n aq (n aP (f aa) z) (n aa (f b5) z)) (n (ar P) gL (f bh)))) (n (l3 [(1,0,20),(5,0,27),(13,0,32),(18,0,39),(23,0,46),(34,0,53),(36,0,66),(38,0,78),(40,0,90),(42,0,102),(44,0,114),(46,0,126),(48,0,138),(50,0,150),(53,0,162)]) (n au (n av (n aa (f bo) z) gL) (n ab (n aW (f aa) z) (f aa))) (n aw (n aa gL (n ba (f (bH P)) z)) (n aF (n aa (f bI) z) (f aa))))) (n (boot_o_6 P) (n (boot_o_10 P) (n aa (n aa (n aQ (f bi) z) (n ac (f b9) z)) (n (aG P) (n aR (f ac) z) (f bj))) (n aH (n ab (n ac (f bx) z) (n a4 (f bJ) z)) (n ax (n a5 (f bz) z) (f ac)))) (n af (n aa (n aI (n aJ (f ac) z) (n bb (f bK) z)) (n aK (n ac (f bL) z) (f bc))) (n ab (n ay (n aX (f bp) z) (n ac (f bM) z)) (n ac (n aY (f ac) z) (f bq))))))
theorem te11690595026838785470:tw11690595026838785470=tw11690595026838785470:=rfl
def tw304250606652206433:Params→Heap:=fun P=>Heap.mk #[boot_o_0 P,boot_o_1 P,boot_o_2 P,eY P,boot_o_4 P,boot_o_5 P,boot_o_6 P,boot_o_7 P,boot_o_8 P,boot_o_9 P,boot_o_10 P,aa,fY,ae,af,aa,ab,ak,aa,aA,au,am,aa,ab,ap,aa,aH,ai,aw,aa,ab,az,an,al,aa,ab,av,aa,aI,ah,aq,aa,ab,aj,aa,aE,ay,ag,ao,ac,aG P,aa,ab,aD,aK,aa,ar P,bu,ax,aB,aF,ad,ac,aL P,aa,ab,aQ,aN,aa,aC P,aJ,aM,aP,ad,ac,aU P,aa,ab,aX,aS,aa,aO P,aR,aT,aW,ad,ac,a0 P,aa,ab,a5,a1,aa,aV P,aY,aZ,a3,ad,ac,a7 P,aa,ab,bb,a6,aa,a2 P,a4,a8,ba,ad,ac,bd P,aa,ab,bj,bf,aa,a9 P,bc,be,bh,ad,ac,bm P,aa,ab,bq,bk,aa,bg P,bi,bl,bo,ad,ac,bs P,aa,ab,bx,bt,aa,bn P,bp,br,bw,ad,ac,bC P,aa,ab,bL,bB,aa,bv P,bz,bE,bI,aa,ac,bO P,aa,bZ,b9,bT,aa,ab,bK,aa,b5,bF,bJ,bD,bH P,bG,bM,bA,b4,b0,aa,ac,cp P,aa,ct,cg,cn,aa,ab,bX,aa,cm,cf,bN,b2,bY P,b8,bS,b7,cj,cr,aa,ab,ci,cb,bW,aa,ab,cu,bP,b3,aa,ab,bV,aa,ck,cd,bR,aa,ab,cc,aa,cq,b1,ce,aa,ab,ch,ca,bU,aa,ab,cs,bQ,b6,aa,ab,cx,aa,cU,cG,cv,aa,ab,cC,aa,c0,cA,cF,aa,ab,cP,cD,cy,aa,ab,cH,aa,cV,cz,cB,aa,ab,cQ,cE,cw,aa,ac,dh P,aa,dg,db,dj,aa,ab,cM,aa,c9,cY,cR,aa,ab,cX,aa,di,cL,c1,aa,ab,cI,aa,da,c2,cJ,aa,ab,c5,aa,dc,cO,c4,aa,ab,cT,aa,c7,cW,cN,c3,cK P,cZ,cS,c6,c8,df,aa,ab,dm,aa,dQ,dz,dk,aa,ab,dx,aa,dT,dq,dy,aa,ab,dn,aa,dG,dw,dr,aa,ab,ds,aa,dY,dl,dv,aa,ab,dC,du,dp,aa,ac,fD P,aa,fO,ea,ez,aa,ab,dE,aa,eq,d4,dA,aa,ab,d0,aa,eM,dO,d7,aa,ab,dK,aa,eh,dU,dN,aa,ab,dS,aa,eT,dH,dV,aa,ab,d9,dR,dI,aa,ab,eH,dM,d2,aa,ab,en,dZ,dF,aa,ab,d6,aa,eA,dJ,dX,aa,ab,es,d5,dB,aa,ab,d1,aa,eO,dP,d8,aa,ab,ek,dW,dD,aa,ab,d3,aa,eE,dL,eR,aa,ab,ev,aa,e3,eC,em,aa,ab,fB,et,eV,aa,ab,ep,aa,ff,eP,ex,aa,ab,ey,aa,fF,ef,eI,aa,ab,e5,eD,eo,aa,ab,eL,aa,fN,eb,eB,aa,ab,eg,aa,fo,eU,ed,aa,ab,eS,aa,fE,ew,eX,aa,ab,el,aa,e8,eJ,er,aa,ab,eF,aa,fH,ej,eN,aa,ab,ec,aa,fh,eQ,ei,eK,eu P,eW,ee,eG,fk,fK,aa,ab,fp,aa,fQ,fq,fg,aa,ab,fx,aa,f2,e4,ft,aa,ab,fb,aa,fV,fM,e1,aa,ab,f0,e9,fA,aa,ab,e6,aa,fU,fI,fe,aa,ab,f3,e0,fs,aa,ab,fS,fz,fm,aa,ab,fw,aa,f1,fc,fC,aa,ab,e2,aa,fT,fG,fa,aa,ab,fL,aa,fX,fj,fJ,aa,ab,fW,fP,eZ,aa,ab,fZ,e7,fy,aa,ab,fv "law" "law" (x 53),fu,fi] (Life.mk [] [] [] 0 [] [] false #[] [] 0 false false false 0 [2000,10,10] false 0 true [] [] 0 false)
theorem te304250606652206433:tw304250606652206433=tw304250606652206433:=rfl
def tw15477691751260910711:Params→Heap:=fun P=>Heap.mk #[boot_o_0 P,boot_o_1 P,boot_o_2 P,boot_o_3 P,boot_o_4 P,boot_o_5 P,boot_o_6 P,boot_o_7 P,boot_o_8 P,boot_o_9 P,boot_o_10 P,aa,ab,ae,af] (Life.mk [] [] [] 0 [] [] false #[] [] 0 false false false 0 [2000,10,10] false 0 true [] [] 0 false)
theorem te15477691751260910711:tw15477691751260910711=tw15477691751260910711:=rfl
def tw1028460070446885695:Params→Frag:=fun P=>[(2,boot_o_2 P),(3,eY P),(15,aa),(17,ak),(18,aa),(20,au),(21,am),(22,aa),(24,ap),(25,aa),(27,ai),(28,aw),(29,aa),(32,an),(33,al),(34,aa),(36,av),(37,aa),(39,ah),(40,aq),(41,aa),(43,aj),(44,aa),(46,ay),(47,ag),(48,ao),(55,aa),(56,ar P),(57,bu),(58,ax),(61,ad),(68,aa),(69,aC P),(70,aJ),(73,ad),(80,aa),(81,aO P),(82,aR),(85,ad),(92,aa),(93,aV P),(94,aY),(97,ad),(104,aa),(105,a2 P),(106,a4),(109,ad),(116,aa),(117,a9 P),(118,bc),(121,ad),(128,aa),(129,bg P),(130,bi),(133,ad),(140,aa),(141,bn P),(142,bp),(145,ad),(152,aa),(153,bv P),(154,bz),(164,aa),(166,bK),(167,aa),(169,bF),(170,bJ),(171,bD),(172,bH P),(173,bG),(174,bM),(175,bA),(185,aa),(187,bX),(188,aa),(190,cf),(191,bN),(192,b2),(193,bY P),(194,b8),(195,bS),(196,b7),(199,aa),(202,cb),(203,bW),(204,aa),(207,bP),(208,b3),(209,aa),(211,bV),(212,aa),(214,cd),(215,bR),(216,aa),(218,cc),(219,aa),(221,b1),(222,ce),(223,aa),(226,ca),(227,bU),(228,aa),(231,bQ),(232,b6),(233,aa),(235,cx),(236,aa),(238,cG),(239,cv),(240,aa),(242,cC),(243,aa),(245,cA),(246,cF),(247,aa),(250,cD),(251,cy),(252,aa),(254,cH),(255,aa),(257,cz),(258,cB),(259,aa),(262,cE),(263,cw),(271,aa),(273,cM),(274,aa),(276,cY),(277,cR),(278,aa),(280,cX),(281,aa),(283,cL),(284,c1),(285,aa),(287,cI),(288,aa),(290,c2),(291,cJ),(292,aa),(294,c5),(295,aa),(297,cO),(298,c4),(299,aa),(301,cT),(302,aa),(304,cW),(305,cN),(306,c3),(307,cK P),(308,cZ),(309,cS),(310,c6),(313,aa),(315,dm),(316,aa),(318,dz),(319,dk),(320,aa),(322,dx),(323,aa),(325,dq),(326,dy),(327,aa),(329,dn),(330,aa),(332,dw),(333,dr),(334,aa),(336,ds),(337,aa),(339,dl),(340,dv),(341,aa),(344,du),(345,dp),(353,aa),(355,dE),(356,aa),(358,d4),(359,dA),(360,aa),(362,d0),(363,aa),(365,dO),(366,d7),(367,aa),(369,dK),(370,aa),(372,dU),(373,dN),(374,aa),(376,dS),(377,aa),(379,dH),(380,dV),(381,aa),(384,dR),(385,dI),(386,aa),(389,dM),(390,d2),(391,aa),(394,dZ),(395,dF),(396,aa),(398,d6),(399,aa),(401,dJ),(402,dX),(403,aa),(406,d5),(407,dB),(408,aa),(410,d1),(411,aa),(413,dP),(414,d8),(415,aa),(418,dW),(419,dD),(420,aa),(422,d3),(423,aa),(425,dL),(426,eR),(427,aa),(429,ev),(430,aa),(432,eC),(433,em),(434,aa),(437,et),(438,eV),(439,aa),(441,ep),(442,aa),(444,eP),(445,ex),(446,aa),(448,ey),(449,aa),(451,ef),(452,eI),(453,aa),(456,eD),(457,eo),(458,aa),(460,eL),(461,aa),(463,eb),(464,eB),(465,aa),(467,eg),(468,aa),(470,eU),(471,ed),(472,aa),(474,eS),(475,aa),(477,ew),(478,eX),(479,aa),(481,el),(482,aa),(484,eJ),(485,er),(486,aa),(488,eF),(489,aa),(491,ej),(492,eN),(493,aa),(495,ec),(496,aa),(498,eQ),(499,ei),(500,eK),(501,eu P),(502,eW),(503,ee),(504,eG),(507,aa),(509,fp),(510,aa),(512,fq),(513,fg),(514,aa),(516,fx),(517,aa),(519,e4),(520,ft),(521,aa),(523,fb),(524,aa),(526,fM),(527,e1),(528,aa),(531,e9),(532,fA),(533,aa),(535,e6),(536,aa),(538,fI),(539,fe),(540,aa),(543,e0),(544,fs),(545,aa),(548,fz),(549,fm),(550,aa),(552,fw),(553,aa),(555,fc),(556,fC),(557,aa),(559,e2),(560,aa),(562,fG),(563,fa),(564,aa),(566,fL),(567,aa),(569,fj),(570,fJ),(571,aa),(574,fP),(575,eZ),(576,aa),(579,e7),(580,fy),(581,aa),(584,fu),(585,fi)]
theorem te1028460070446885695:tw1028460070446885695=tw1028460070446885695:=rfl
def tw5448889670687180256:List Stmt:=[x 40,x 41,x 42,x 43,x 44,x 45,x 46,x 47,x 48,x 49,x 50,x 51,x 52,x 53]
theorem te5448889670687180256:tw5448889670687180256=tw5448889670687180256:=rfl
def tw16918773941150616993:List Stmt:=[x 8]
theorem te16918773941150616993:tw16918773941150616993=tw16918773941150616993:=rfl
def tw2655278788296857960:List Stmt:=[x 13]
theorem te2655278788296857960:tw2655278788296857960=tw2655278788296857960:=rfl
def tw16218060726311847752:List Stmt:=[x 39]
theorem te16218060726311847752:tw16218060726311847752=tw16218060726311847752:=rfl
def tw8571171105697322220:List Stmt:=[x 18,x 19,x 20,x 21,x 22,x 23,x 24]
theorem te8571171105697322220:tw8571171105697322220=tw8571171105697322220:=rfl
def tw14887400068221170221:List Stmt:=[x 25,x 26,x 27,x 28,x 29]
theorem te14887400068221170221:tw14887400068221170221=tw14887400068221170221:=rfl
def tw5719918235208026224:List Stmt:=[x 14]
theorem te5719918235208026224:tw5719918235208026224=tw5719918235208026224:=rfl
def tw8521143102567419440:List Stmt:=[x 10]
theorem te8521143102567419440:tw8521143102567419440=tw8521143102567419440:=rfl
def tw17913862239623517808:List Stmt:=[x 12]
theorem te17913862239623517808:tw17913862239623517808=tw17913862239623517808:=rfl
def tw11351013282241592753:List Stmt:=[x 34,x 35,x 36,x 37,x 38]
theorem te11351013282241592753:tw11351013282241592753=tw11351013282241592753:=rfl
def tw13078547183807542707:List Stmt:=[x 15,x 16]
theorem te13078547183807542707:tw13078547183807542707=tw13078547183807542707:=rfl
def tw15185228359893576154:List Stmt:=[x 9]
theorem te15185228359893576154:tw15185228359893576154=tw15185228359893576154:=rfl
def tw2223383230526503932:List Stmt:=[x 17]
theorem te2223383230526503932:tw2223383230526503932=tw2223383230526503932:=rfl
def tw7156413400934732030:List Stmt:=[x 0,x 1,x 2,x 3,x 4,x 5,x 6,x 7]
theorem te7156413400934732030:tw7156413400934732030=tw7156413400934732030:=rfl
def tw9022102365964332830:List Stmt:=[x 30,x 31,x 32,x 33]
theorem te9022102365964332830:tw9022102365964332830=tw9022102365964332830:=rfl
def tw4636217833646146559:List Stmt:=[x 11]
theorem te4636217833646146559:tw4636217833646146559=tw4636217833646146559:=rfl
def tw2562451272807700634:Program:={PySem.Challenge.pw_patchkin_k14_whole_settled with main:={PySem.Challenge.pw_patchkin_k14_whole_settled.main with body:=[x 0,x 2,x 3,x 4,x 5,x 7,x 8,x 9,x 10,x 11,x 12,x 13,x 14,x 15,x 17,x 18,x 19,x 20,x 21,x 22,x 23,x 24,x 25,x 26,x 27,x 28,x 29,x 30,x 32,x 33,x 34,x 35,x 36,x 37,x 38,x 39,x 41,x 42,x 43,x 44,x 45,x 46,x 47,x 48,x 49,x 50,x 51,x 52,x 53]}}
theorem te2562451272807700634:tw2562451272807700634=tw2562451272807700634:=rfl
end
end PySem.W.Fast
namespace PK
open PySem L2
theorem all_mk{l:W.OpenLaw}{w:World}{K:Qqy}{h:Heap}{mg:Qqx}{fa f0 f1 f2 f3 f4 f5 f6 f7 f8 f9 f10 f11 f12 f13 f14 f15 f16 f17 f18 f19 f20 f21 f22 f23 f24 f25 f26 f27 f28 f29 f30 f31 f32 f33 f34 f35 f36 f37 f38 f39 f40 f41 f42 f43 f44 f45 f46 f47 f48 f49 f50 f51 f52 f53 f54 f55 f56 f57 f58 f59 f60 f61 hV hZ hG gm lQ jD ju iL jZ ow lx ux tq:Addr}{nJ lR:Tok}(X:K.In h)(G:h.Ns mainGlobals mg)(hfa:mg "law"=some (.ref fa))
  (Dt:W.nsIn K mainGlobals "Line"=some (some (.ref hV)))
  (AD:W.nsIn K mainGlobals "Patch"=some (some (.ref hZ)))
  (AE:W.nsIn K mainGlobals "Sight"=some (some (.ref hG)))
  (Du:W.nsIn K mainGlobals "Desk"=some (some (.ref gm)))
  (h0:FI K "counts_with" pb f0)
  (h1:FI K "most_pairs" qz f1)
  (h2:FI K "place_from" qA f2)
  (h3:FI K "kept" FW f3)
  (h4:FI K "lines_named_by" kR f4)
  (h5:FI K "leans_straight_on" jS f5)
  (h6:FI K "live_patches" n9 f6)
  (h7:FI K "lines_put" rS f7)
  (h8:FI K "standing_lines" kS f8)
  (h9:FI K "files_with_lines" n_ f9)
  (VC:FI K "straight_ahead" ma f10)
  (Uq:FI K "joined" zI f11)
  (Zd:FI K "all_ahead" oI f12)
  (Ze:FI K "first_free" qB f13)
  (Zf:FI K "row_of" vd f14)
  (Zg:FI K "check_name" qC f15)
  (Zh:FI K "check_places" oa f16)
  (Zi:FI K "kept_behind" pd f17)
  (Zj:FI K "new_lines" rV f18)
  (Zk:FI K "changing_patch" jY f19)
  (VD:FI K "_law_cell_at" oe f20)
  (Ur:FI K "_law_draw" r_ f21)
  (Zl:FI K "_law_name" sd f22)
  (Zm:FI K "_law_text" oK f23)
  (Zn:FI K "_law_edit" se f24)
  (Zo:FI K "_law_deed" oM f25)
  (Zp:FI K "_law_desk" mF f26)
  (Zq:FI K "_law_whole" qH f27)
  (Zr:FI K "_law_row_form" mX f28)
  (Zs:FI K "_law_pairs_form" lM f29)
  (Zt:FI K "_law_most" oN f30)
  (Zu:FI K "_law_stay_right" ky f31)
  (Zv:FI K "law" Ey f32)
  (Zw:MI K hV "__init__" "Line.__init__" mS f33)
  (Zx:MI K hZ "__init__" "Patch.__init__" l_ f34)
  (Zy:MI K hG "__init__" "Sight.__init__" me f35)
  (Zz:MI K hG "is_ahead" "Sight.is_ahead" mf f36)
  (ZA:MI K hG "quarrelling" "Sight.quarrelling" kX f37)
  (ZC:MI K hG "most_from" "Sight.most_from" lJ f38)
  (ZD:MI K hG "staying" "Sight.staying" mT f39)
  (VE:MI K gm "__init__" "Desk.__init__" mU f40)
  (Ut:MI K gm "begin" "Desk.begin" qD f41)
  (ZE:MI K gm "stores" "Desk.stores" tS f42)
  (ZF:MI K gm "patches" "Desk.patches" rW f43)
  (ZG:MI K gm "has" "Desk.has" qE f44)
  (ZH:MI K gm "record" "Desk.record" my f45)
  (ZI:MI K gm "cut" "Desk.cut" qF f46)
  (ZJ:MI K gm "back" "Desk.back" rX f47)
  (ZK:MI K gm "take" "Desk.take" oJ f48)
  (ZL:MI K gm "drop" "Desk.drop" rY f49)
  (VF:MI K gm "leans" "Desk.leans" nI f50)
  (Uu:MI K gm "files" "Desk.files" ve f51)
  (ZM:MI K gm "row" "Desk.row" qG f52)
  (ZN:MI K gm "quarrels" "Desk.quarrels" mV f53)
  (ZO:MI K gm "stay" "Desk.stay" rZ f54)
  (ZP:MI K gm "patches_of" "Desk.patches_of" kx f55)
  (ZQ:MI K gm "sight_of" "Desk.sight_of" mW f56)
  (ZR:MI K gm "check_store" "Desk.check_store" lr f57)
  (ZS:MI K gm "check_made" "Desk.check_made" lK f58)
  (ZT:MI K gm "check_held" "Desk.check_held" lL f59)
  (ZU:MI K gm "check_new" "Desk.check_new" mi f60)
  (ZV:MI K gm "keep" "Desk.keep" r9 f61)
  (Dw:W.plainGet K hV Str.empty=true)
  (Dx:W.hasDictIn K hV=true)
  (Dy:W.plainOver K hV=true)
  (Dz:W.findIn K (.ref hV) "__setattr__"=some (some (.builtin "object.__setattr__")))
  (DA:W.makesIn K hV=true)
  (DB:W.keepIn K (.ref hV)=true)
  (hU:W.findIn K (.ref hV) "name"=some none)
  (jM:W.findIn K (.ref hV) "text"=some none)
  (iD:W.findIn K (.ref hV) "upper_name"=some none)
  (iE:W.findIn K (.ref hV) "lower_name"=some none)
  (AF:W.plainGet K hZ Str.empty=true)
  (AG:W.hasDictIn K hZ=true)
  (AH:W.plainOver K hZ=true)
  (AI:W.findIn K (.ref hZ) "__setattr__"=some (some (.builtin "object.__setattr__")))
  (AJ:W.makesIn K hZ=true)
  (AK:W.keepIn K (.ref hZ)=true)
  (iX:W.findIn K (.ref hZ) "name"=some none)
  (kl:W.findIn K (.ref hZ) "file"=some none)
  (jO:W.findIn K (.ref hZ) "puts"=some none)
  (jP:W.findIn K (.ref hZ) "cuts"=some none)
  (i0:W.findIn K (.ref hZ) "other"=some none)
  (AL:W.plainGet K hG Str.empty=true)
  (AM:W.hasDictIn K hG=true)
  (AN:W.plainOver K hG=true)
  (AO:W.findIn K (.ref hG) "__setattr__"=some (some (.builtin "object.__setattr__")))
  (AQ:W.makesIn K hG=true)
  (AR:W.keepIn K (.ref hG)=true)
  (jy:W.findIn K (.ref hG) "ahead"=some none)
  (ia:W.findIn K (.ref hG) "lines"=some none)
  (DC:W.plainGet K gm Str.empty=true)
  (DD:W.hasDictIn K gm=true)
  (DE:W.plainOver K gm=true)
  (DG:W.findIn K (.ref gm) "__setattr__"=some (some (.builtin "object.__setattr__")))
  (DH:W.makesIn K gm=true)
  (DI:W.keepIn K (.ref gm)=true)
  (i4:W.findIn K (.ref gm) "made"=some none)
  (jd:W.findIn K (.ref gm) "needs"=some none)
  (iy:W.findIn K (.ref gm) "held"=some none)
  (pz:W.nsIn K mainGlobals "PatchError"=some (some (.ref lQ)))
  (uG:W.nsIn K mainGlobals "BadName"=some (some (.ref jD)))
  (qR:W.nsIn K mainGlobals "NameTaken"=some (some (.ref ju)))
  (uH:W.nsIn K mainGlobals "NoStore"=some (some (.ref iL)))
  (uI:W.nsIn K mainGlobals "NoPatch"=some (some (.ref jZ)))
  (xm:W.nsIn K mainGlobals "NoLine"=some (some (.ref ow)))
  (qS:W.nsIn K mainGlobals "Unsettled"=some (some (.ref lx)))
  (DJ:W.nsIn K mainGlobals "Same"=some (some (.ref ux)))
  (AS:W.nsIn K mainGlobals "Leant"=some (some (.ref tq)))
  (pA:W.nsIn K mainGlobals "NAME_SIGNS"=some (some (.str (Str.ofString "abcdefghijklmnopqrstuvwxyz0123456789") nJ)))
  (nj:W.nsIn K mainGlobals "LONGEST_NAME"=some (some (.int 12 lR)))
  (Lx:W.nsIn K mainGlobals "len"=some none)
  (DK:W.nsIn K mainGlobals "range"=some none)
  (Ly:W.nsIn K mainGlobals "max"=some none)
  (qT:W.nsIn K mainGlobals "isinstance"=some none)
  (Lz:W.nsIn K mainGlobals "int"=some none)
  (GA:W.nsIn K mainGlobals "bool"=some none)
  (GB:W.nsIn K mainGlobals "list"=some none)
  (DL:W.nsIn K mainGlobals "tuple"=some none)
  (LA:W.nsIn K mainGlobals "str"=some none)
  (uJ:W.nsIn K mainGlobals "reversed"=some none)
  (AU:W.nsIn K mainGlobals "sorted"=some none)
  (LB:W.nsIn K mainGlobals "set"=some none)
  (sY:W.nsIn K mainGlobals "enumerate"=some none)
  (qU:W.nsIn K mainGlobals "ValueError"=some none)
  (pB:W.excIn K lQ [.type "ValueError",.type "Exception",.type "BaseException",.type "object"] "ValueError.__new__"=true)
  (uK:W.excIn K jD [.type "ValueError",.type "Exception",.type "BaseException",.type "object"] "ValueError.__new__"=true)
  (qV:W.excIn K ju [.type "ValueError",.type "Exception",.type "BaseException",.type "object"] "ValueError.__new__"=true)
  (uL:W.excIn K iL [.type "ValueError",.type "Exception",.type "BaseException",.type "object"] "ValueError.__new__"=true)
  (uM:W.excIn K jZ [.type "ValueError",.type "Exception",.type "BaseException",.type "object"] "ValueError.__new__"=true)
  (xn:W.excIn K ow [.type "ValueError",.type "Exception",.type "BaseException",.type "object"] "ValueError.__new__"=true)
  (qW:W.excIn K lx [.type "ValueError",.type "Exception",.type "BaseException",.type "object"] "ValueError.__new__"=true)
  (DN:W.excIn K ux [.type "ValueError",.type "Exception",.type "BaseException",.type "object"] "ValueError.__new__"=true)
  (AV:W.excIn K tq [.type "ValueError",.type "Exception",.type "BaseException",.type "object"] "ValueError.__new__"=true) :
  ∃fd:FuncData,(∀(s:Shared)(v:Value),BindsTo s fd ⟨[v],[]⟩ [("script",v)])∧∀base:Heap,K.In base→base.Ns mainGlobals mg→ij l.prog w K mg base mr 20 fa fd ["script"] (Hf K):=by
 obtain⟨m0,d0,F0⟩:=h0
 obtain⟨m1,d1,F1⟩:=h1
 obtain⟨m2,d2,F2⟩:=h2
 obtain⟨m3,d3,F3⟩:=h3
 obtain⟨m4,d4,F4⟩:=h4
 obtain⟨m5,d5,F5⟩:=h5
 obtain⟨m6,d6,F6⟩:=h6
 obtain⟨m7,d7,F7⟩:=h7
 obtain⟨m8,d8,F8⟩:=h8
 obtain⟨m9,d9,F9⟩:=h9
 obtain⟨m10,d10,F10⟩:=VC
 obtain⟨m11,d11,F11⟩:=Uq
 obtain⟨m12,d12,F12⟩:=Zd
 obtain⟨m13,d13,F13⟩:=Ze
 obtain⟨m14,d14,F14⟩:=Zf
 obtain⟨m15,d15,F15⟩:=Zg
 obtain⟨m16,d16,F16⟩:=Zh
 obtain⟨m17,d17,F17⟩:=Zi
 obtain⟨m18,d18,F18⟩:=Zj
 obtain⟨m19,d19,F19⟩:=Zk
 obtain⟨m20,d20,F20⟩:=VD
 obtain⟨m21,d21,F21⟩:=Ur
 obtain⟨m22,d22,F22⟩:=Zl
 obtain⟨m23,d23,F23⟩:=Zm
 obtain⟨m24,d24,F24⟩:=Zn
 obtain⟨m25,d25,F25⟩:=Zo
 obtain⟨m26,d26,F26⟩:=Zp
 obtain⟨m27,d27,F27⟩:=Zq
 obtain⟨m28,d28,F28⟩:=Zr
 obtain⟨m29,d29,F29⟩:=Zs
 obtain⟨m30,d30,F30⟩:=Zt
 obtain⟨m31,d31,F31⟩:=Zu
 obtain⟨m32,d32,F32⟩:=Zv
 obtain⟨ZW,d33,F33⟩:=Zw
 obtain⟨ZX,d34,F34⟩:=Zx
 obtain⟨ZY,d35,F35⟩:=Zy
 obtain⟨m36,d36,F36⟩:=Zz
 obtain⟨m37,d37,F37⟩:=ZA
 obtain⟨m38,d38,F38⟩:=ZC
 obtain⟨m39,d39,F39⟩:=ZD
 obtain⟨ZZ,d40,F40⟩:=VE
 obtain⟨m41,d41,F41⟩:=Ut
 obtain⟨m42,d42,F42⟩:=ZE
 obtain⟨m43,d43,F43⟩:=ZF
 obtain⟨m44,d44,F44⟩:=ZG
 obtain⟨m45,d45,F45⟩:=ZH
 obtain⟨m46,d46,F46⟩:=ZI
 obtain⟨m47,d47,F47⟩:=ZJ
 obtain⟨m48,d48,F48⟩:=ZK
 obtain⟨m49,d49,F49⟩:=ZL
 obtain⟨m50,d50,F50⟩:=VF
 obtain⟨m51,d51,F51⟩:=Uu
 obtain⟨m52,d52,F52⟩:=ZM
 obtain⟨m53,d53,F53⟩:=ZN
 obtain⟨m54,d54,F54⟩:=ZO
 obtain⟨m55,d55,F55⟩:=ZP
 obtain⟨m56,d56,F56⟩:=ZQ
 obtain⟨m57,d57,F57⟩:=ZR
 obtain⟨m58,d58,F58⟩:=ZS
 obtain⟨m59,d59,F59⟩:=ZT
 obtain⟨m60,d60,F60⟩:=ZU
 obtain⟨m61,d61,F61⟩:=ZV
 have e:=hfa.symm.trans (aan X G m32)
 cases e
 have T:Txt mg:=⟨aaW X G Lx,aaW X G DK,aaW X G Ly,aaW X G qT,aaW X G Lz,aaW X G GA,aaW X G GB,aaW X G DL,aaW X G LA,aaW X G uJ,aaW X G AU,aaW X G LB,aaW X G sY,aaW X G qU⟩
 have O:Ok K mg (Ad.mk f0 d0 f1 d1 f2 d2 f3 d3 f33 d33 f34 d34 f4 d4 f5 d5 f6 d6 f7 d7 f8 d8 f9 d9 f10 d10 f11 d11 f12 d12 f13 d13 f14 d14 f35 d35 f36 d36 f37 d37 f38 d38 f39 d39 f15 d15 f16 d16 f17 d17 f18 d18 f19 d19 f40 d40 f41 d41 f42 d42 f43 d43 f44 d44 f45 d45 f46 d46 f47 d47 f48 d48 f49 d49 f50 d50 f51 d51 f52 d52 f53 d53 f54 d54 f55 d55 f56 d56 f57 d57 f58 d58 f59 d59 f60 d60 f61 d61 f20 d20 f21 d21 f22 d22 f23 d23 f24 d24 f25 d25 f26 d26 f27 d27 f28 d28 f29 d29 f30 d30 f31 d31 hV hZ hG gm lQ jD ju iL jZ ow lx ux tq nJ lR ()):=⟨⟨F0,F0.bd,aan X G m0⟩,⟨F1,F1.bd,aan X G m1⟩,⟨F2,F2.bd,aan X G m2⟩,⟨F3,F3.bd,aan X G m3⟩,⟨F33,F33.bd,ZW⟩,⟨F34,F34.bd,ZX⟩,⟨F4,F4.bd,aan X G m4⟩,⟨F5,F5.bd,aan X G m5⟩,⟨F6,F6.bd,aan X G m6⟩,⟨F7,F7.bd,aan X G m7⟩,⟨F8,F8.bd,aan X G m8⟩,⟨F9,F9.bd,aan X G m9⟩,⟨F10,F10.bd,aan X G m10⟩,⟨F11,F11.bd,aan X G m11⟩,⟨F12,F12.bd,aan X G m12⟩,⟨F13,F13.bd,aan X G m13⟩,⟨F14,F14.bd,aan X G m14⟩,⟨F35,F35.bd,ZY⟩,⟨F36,F36.bd,m36⟩,⟨F37,F37.bd,m37⟩,⟨F38,F38.bd,m38⟩,⟨F39,F39.bd,m39⟩,⟨F15,F15.bd,aan X G m15⟩,⟨F16,F16.bd,aan X G m16⟩,⟨F17,F17.bd,aan X G m17⟩,⟨F18,F18.bd,aan X G m18⟩,⟨F19,F19.bd,aan X G m19⟩,⟨F40,F40.bd,ZZ⟩,⟨F41,F41.bd,m41⟩,⟨F42,F42.bd,m42⟩,⟨F43,F43.bd,m43⟩,⟨F44,F44.bd,m44⟩,⟨F45,F45.bd,m45⟩,⟨F46,F46.bd,m46⟩,⟨F47,F47.bd,m47⟩,⟨F48,F48.bd,m48⟩,⟨F49,F49.bd,m49⟩,⟨F50,F50.bd,m50⟩,⟨F51,F51.bd,m51⟩,⟨F52,F52.bd,m52⟩,⟨F53,F53.bd,m53⟩,⟨F54,F54.bd,m54⟩,⟨F55,F55.bd,m55⟩,⟨F56,F56.bd,m56⟩,⟨F57,F57.bd,m57⟩,⟨F58,F58.bd,m58⟩,⟨F59,F59.bd,m59⟩,⟨F60,F60.bd,m60⟩,⟨F61,F61.bd,m61⟩,⟨F20,F20.bd,aan X G m20⟩,⟨F21,F21.bd,aan X G m21⟩,⟨F22,F22.bd,aan X G m22⟩,⟨F23,F23.bd,aan X G m23⟩,⟨F24,F24.bd,aan X G m24⟩,⟨F25,F25.bd,aan X G m25⟩,⟨F26,F26.bd,aan X G m26⟩,⟨F27,F27.bd,aan X G m27⟩,⟨F28,F28.bd,aan X G m28⟩,⟨F29,F29.bd,aan X G m29⟩,⟨F30,F30.bd,aan X G m30⟩,⟨F31,F31.bd,aan X G m31⟩,⟨Dw,Dx,Dy,Dz⟩,⟨DA,ZW.at_,ZW.fn,DB⟩,aan X G Dt,hU,jM,iD,iE,⟨AF,AG,AH,AI⟩,⟨AJ,ZX.at_,ZX.fn,AK⟩,aan X G AD,iX,kl,jO,jP,i0,⟨AL,AM,AN,AO⟩,⟨AQ,ZY.at_,ZY.fn,AR⟩,aan X G AE,jy,ia,⟨DC,DD,DE,DG⟩,⟨DH,ZZ.at_,ZZ.fn,DI⟩,aan X G Du,i4,jd,iy,⟨aan X G pz,pB⟩,⟨aan X G uG,uK⟩,⟨aan X G qR,qV⟩,⟨aan X G uH,uL⟩,⟨aan X G uI,uM⟩,⟨aan X G xm,xn⟩,⟨aan X G qS,qW⟩,⟨aan X G DJ,DN⟩,⟨aan X G AS,AV⟩,aan X G pA,aan X G nj,True.intro⟩
 refine⟨d32,fun s v=>?_,fun base _ _=>Ql F32 T O⟩
 obtain⟨_,_,_,_,_,_,_,_,_,rfl,_,_⟩:=F32.ex
 exact .of_eq rfl
theorem walk{l:W.OpenLaw}{q:Program}{loose:List Str}{XP:(Qqx)→Heap→Prop}{YP:World→Heap→Prop}{d:DefRec}{K:Params→Qqy}(hn:l.most=some 63)(Tp:d.params.defaults=[])
  (hY:∀(w:World)(h:Heap),YP w h→(K w.params).In h)
  (F:∀(w:World)(mg:Qqx)(fa:Addr)(h:Heap),(K w.params).In h→h.Ns mainGlobals mg→mg d.name=some (.ref fa)→
   ∃fd:FuncData,(∀(s:Shared)(u:Value),BindsTo s fd ⟨[u],[]⟩ [("script",u)])∧∀base:Heap,(K w.params).In base→base.Ns mainGlobals mg→ij l.prog w (K w.params) mg base mr 20 fa fd ["script"] (Hf (K w.params))) :
  W.WalkO q loose XP YP l.row.toRowW d [] (fun f vs=>PySem.call f vs):=
 L2.Ma (n:=63) (k:=20) (x:="script") (CX:=fun _=>mr) (sp:=fun w=>Hf (K w.params)) hn (by decide) Tp ⟨rfl,by decide,by decide⟩ hY F (fun _ _ a ns hl _ hS=>⟨a,ns,rfl,hS,hl,fun _=>rfl⟩) fun _ _ _ _ _ z=>z
end PK
open PySem PySem.W PyProof.Rows
theorem PySem.Challenge.cw_patchkin_k14_whole_settled_holds : PySem.Challenge.rw_patchkin_k14_whole_settled.Holds := by
 w_on;o_law;k_head;(case hw=>w_witness2)
 k_fill
 refine PK.walk (l:=PySem.Challenge.rw_patchkin_k14_whole_settled) rfl rfl (fun w h Y=>PySem.W.kIn_of Y) ?F
 case F=>
  intro w mg fa h KX G Tq
  refine' PK.all_mk KX G Tq ?zqDt ?zqAD ?zqAE ?zqDu ?zqh0 ?zqh1 ?zqh2 ?zqh3 ?zqh4 ?zqh5 ?zqh6 ?zqh7 ?zqh8 ?zqh9 ?zqVC ?zqUq ?zqZd ?zqZe ?zqZf ?zqZg ?zqZh ?zqZi ?zqZj ?zqZk ?zqVD ?zqUr ?zqZl ?zqZm ?zqZn ?zqZo ?zqZp ?zqZq ?zqZr ?zqZs ?zqZt ?zqZu ?zqZv ?zqZw ?zqZx ?zqZy ?zqZz ?zqZA ?zqZC ?zqZD ?zqVE ?zqUt ?zqZE ?zqZF ?zqZG ?zqZH ?zqZI ?zqZJ ?zqZK ?zqZL ?zqVF ?zqUu ?zqZM ?zqZN ?zqZO ?zqZP ?zqZQ ?zqZR ?zqZS ?zqZT ?zqZU ?zqZV ?zqDw ?zqDx ?zqDy ?zqDz ?zqDA ?zqDB ?zqhU ?zqjM ?zqiD ?zqiE ?zqAF ?zqAG ?zqAH ?zqAI ?zqAJ ?zqAK ?zqiX ?zqkl ?zqjO ?zqjP ?zqi0 ?zqAL ?zqAM ?zqAN ?zqAO ?zqAQ ?zqAR ?zqjy ?zqia ?zqDC ?zqDD ?zqDE ?zqDG ?zqDH ?zqDI ?zqi4 ?zqjd ?zqiy ?zqpz ?zquG ?zqqR ?zquH ?zquI ?zqxm ?zqqS ?zqDJ ?zqAS ?zqpA ?zqnj ?zqLx ?zqDK ?zqLy ?zqqT ?zqLz ?zqGA ?zqGB ?zqDL ?zqLA ?zquJ ?zqAU ?zqLB ?zqsY ?zqqU ?zqpB ?zquK ?zqqV ?zquL ?zquM ?zqxn ?zqqW ?zqDN ?zqAV
  (case zqDt|zqAD|zqAE|zqDu=>k_is)
  (case zqh0|zqh1|zqh2|zqh3|zqh4|zqh5|zqh6|zqh7|zqh8|zqh9|zqVC|zqUq|zqZd|zqZe|zqZf|zqZg|zqZh|zqZi|zqZj|zqZk|zqVD|zqUr|zqZl|zqZm|zqZn|zqZo|zqZp|zqZq|zqZr|zqZs|zqZt|zqZu|zqZv=>refine' L2.Sx ?a ?l ?c ?k;(case a=>k_is);(case l=>k_is);(case c=>k_is);(case k=>k_is))
  (case zqZw|zqZx|zqZy|zqZz|zqZA|zqZC|zqZD|zqVE|zqUt|zqZE|zqZF|zqZG|zqZH|zqZI|zqZJ|zqZK|zqZL|zqVF|zqUu|zqZM|zqZN|zqZO|zqZP|zqZQ|zqZR|zqZS|zqZT|zqZU|zqZV=>refine' L2.Sy ?a ?i ?l ?c ?k;(case a=>k_is);(case i=>k_is);(case l=>k_is);(case c=>k_is);(case k=>k_is))
  (case zqDw|zqDx|zqDy|zqDz|zqDA|zqDB|zqhU|zqjM|zqiD|zqiE|zqAF|zqAG|zqAH|zqAI|zqAJ|zqAK|zqiX|zqkl|zqjO|zqjP|zqi0|zqAL|zqAM|zqAN|zqAO|zqAQ|zqAR|zqjy|zqia|zqDC|zqDD|zqDE|zqDG|zqDH|zqDI|zqi4|zqjd|zqiy|zqpz|zquG|zqqR|zquH|zquI|zqxm|zqqS|zqDJ|zqAS|zqpA|zqnj|zqLx|zqDK|zqLy|zqqT|zqLz|zqGA|zqGB|zqDL|zqLA|zquJ|zqAU|zqLB|zqsY|zqqU=>k_is)
  (case zqpB|zquK|zqqV|zquL|zquM|zqxn|zqqW|zqDN|zqAV=>k_exc)
