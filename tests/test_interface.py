"""The names and arguments of the interface, and where they are defined."""

import importlib
import inspect
import unittest

FUNCTIONS = {
    "words": "is_name(text) check_name(text) read_number(text) split_words(line)",
    "shapes": "check_shape(shape) column_count(shape) level_of(shape,column) above(shape,level) cuts(shape) "
              "shape_of(chain,count) depth_of(shape,columns) path_values(shape,path) values_path(shape,values,depth)",
    "forms": "outline_of(form) check_outline(outline) form_of(outline) check_form(form,shape) rows_of(form) "
             "form_of_rows(rows)",
    "rules": "rules_of(form,shape)",
    "writing": "write_value(value) read_value(text) write_book(book) read_book(lines) write_schema(schema) "
               "read_schema(book,line) write_form(form) read_form(lines)",
    "listing": "walk_forms(schema,most) count_forms(schema,most) form_number(schema,most,form) "
               "numbered_form(schema,most,number)",
    "renaming": "renumber_shape(shape,order) renumber_form(form,shape,order) renumber_schema(schema,order) "
                "renumber_step(step,order) rename_book(book,names) rename_value(value,names) rename_form(form,names) "
                "rename_schema(schema,names)",
    "steps": "step_shape(shape,step) script_shape(shape,steps) step_form(form,shape,step) run_script(form,shape,steps)",
    "stepwords": "write_step(step) read_step(line)",
    "scripts": "short_script(regrouping) regroupings_between(before,after) script_difference(schema,first,second) "
               "shortest_script(schema,regrouping)",
    "choices": "possible_branches(parted,path,next_path) start_path(regrouping,path) "
               "branch_choices(regrouping,parted,path,next_path,end) leaf_choices(regrouping,rules,result)",
    "notecodes": "sizes_of(lists) note_of(lists,chosen) chosen_by(lists,note) note_sizes(regrouping,rules,result) "
                 "note_number(sizes,note) numbered_note(sizes,number)",
    "notes": "script_note(regrouping,rules,form) restore(regrouping,rules,result,note) "
             "note_count(regrouping,rules,result) origins(regrouping,rules,result,*,most)",
    "lossless": "lost_pair(schema,regrouping) back_regrouping(regrouping) unreturned(schema,regrouping)",
    "borders": "check_border(book,kinds,targets) cross_form(book,form,shape,targets,label) "
               "cross_passages(form,shape,passages,labels)",
    "blame": "walk_value(book,kinds,value) blamed(book,kinds,value) blamable(book,kinds)",
    "valuenotes": "sources(book,kind,target,value) value_note(schema,targets,form) "
                  "restore_values(schema,targets,result,note) value_count(schema,targets,result) "
                  "value_sizes(schema,targets,result) lost_values(schema,targets)",
    "completing": "completion(places) is_sound(places,table) as_told(places,table,other) sound_tables(places,*,most)",
    "clashes": "check_walks(places,walks)",
    "roads": "check_road(ways) run_road(ways,form) run_early(ways,form) run_late(ways,form)",
    "joining": "still(schema) way_summary(way) road_summary(ways) joined(first,second)",
    "waynotes": "way_note(way,form) bring_back(way,result,note) way_count(way,result) road_notes(ways,form) "
                "bring_back_road(ways,result,notes)",
    "stops": "passing(summaries,rules) ranked_form(summary,rank) label_difference(first,second)",
    "differing": "difference(first,second)",
    "reordering": "early(summary) late(summary)",
    "keeping": "lost_rule(summary,rules) kept_rules(summary)",
    "squares": "square(schema,step,targets)",
    "certificates": "certificate(ways) check_certificate(ways,lines)",
    "lenses": "road_difference(web,first,second) lenses(web) disagreement(web) alike_roads(web,start,end)",
    "leastwebs": "needless(web) least(web) stand_in(web,name) lean_road(web,names)",
    "filledwebs": "places_of(web) filled(web)",
    "queries": "check_query(schema,query) answer(schema,query,form) add_answers(query,*answers) "
               "is_coarser(schema,query,other) coarse_answer(schema,query,other,rows)",
    "answering": "unanswered(summary,query) answer_back(summary,query,result)",
    "foretelling": "answer_ahead(summary,query,form)",
    "grids": "all_moves(*,ways,turns) route(editions,names,moves,edition) square_difference(editions,way,edition) "
             "grid_difference(editions,names,edition) squares_between(names,first,second,*,edition) "
             "exchanges(first,second) route_difference(editions,names,first,second,*,edition)",
    "reaches": "reach(editions,edition) moved_places(editions,edition)",
    "journals": "write_entry(entry) read_entry(line)",
}
CLASSES = {
    ("kinds", "Kindbook"): "__init__(self,rows) checked(self,name) size_of(self,name) parent_of(self,name) "
                           "leads_of(self,name) chain_of(self,name) members(self,kind) led(self,value,kind) "
                           "below(self,lower,upper) finer(self,first,second)",
    ("rules", "Rules"): "__init__(self,full,parted) named(self) within(self,other)",
    ("schemas", "Schema"): "__init__(self,book,shape,kinds,rules) choices(self,column) check(self,form) fits(self,form) "
                           "same(self,other) with_kinds(self,kinds) with_rules(self,rules)",
    ("regroupings", "Regrouping"): "__init__(self,before,after,depths) identity(shape) of(shape,steps) then(self,other) "
                                   "refused(self) end_path(self,path) end_branch(self,values,next_values,branch)",
    ("passages", "Passage"): "__init__(self,book,start_kind,end_kind,borders,gate,gate_stage,reached,fail_stage) "
                             "of(book,kinds) then(self,other) stage(self,value) lead(self,value) passing(self) facts(self)",
    ("places", "Places"): "__init__(self,book,rows,links) kind_of(self,place) reached_from(self,place) "
                          "walk(self,first,second)",
    ("ways", "Way"): "__init__(self,name,label,start,end,steps) send(self,form)",
    ("summaries", "Summary"): "__init__(self,start,end,passages,labels,hollow,depths,compares) rank(self,column,value) "
                              "form_rank(self,form) shares(self,at,values,next_values,branch) "
                              "end_branch_of(self,values,next_values,branch) facts(self)",
    ("webs", "Web"): "__init__(self,book) of(book,offices,ways) office_names(self) way_names(self) office(self,name) "
                     "way(self,name) ends(self,name) with_office(self,name,schema) "
                     "with_way(self,name,label,start,end,steps) without_ways(self,names) with_kinds(self,office,kinds) "
                     "with_steps(self,way,steps) roads(self,start,end,*,most) road(self,names)",
    ("editions", "Editions"): "__init__(self,web) latest(self) web_at(self,edition) change_kinds(self,office,kinds) "
                              "change_steps(self,way,steps) turn(self,office,edition) twin(self)",
    ("houses", "House"): "__init__(self,web) replayed(web,entries) enter(self,name,office,form) leave(self,name) "
                         "move(self,name,way) back(self,name) change_kinds(self,office,kinds) "
                         "change_steps(self,way,steps) do(self,entry) undo(self) trial(self) editions(self) "
                         "journal(self) traveller_names(self) where(self,name) outcome(self,name) "
                         "present_form(self,name) history(self,name) summary_of(self,name) entry_form(self,name) "
                         "ask(self,name,query)",
    ("desk", "Desk"): "__init__(self,house) run(self,line) run_all(self,lines)",
}
DEFAULTS = {
    ("webs", "Web", "roads"): {"most": 9}, ("grids", "squares_between"): {"edition": 0},
    ("grids", "route_difference"): {"edition": 0}, ("notes", "origins"): {"most": None},
    ("completing", "sound_tables"): {"most": None}, ("ways", "Way", "__init__"): {"steps": ()},
    ("places", "Places", "__init__"): {"links": ()}, ("rules", "Rules", "__init__"): {"full": (), "parted": ()},
}
OPERATORS = {
    ("kinds", "Kindbook"): "__contains__ __iter__", ("rules", "Rules"): "__or__ __and__ __contains__ __eq__",
    ("regroupings", "Regrouping"): "__eq__ __call__", ("summaries", "Summary"): "__call__",
}


def described(function):
    """The name and the parameters of a function; a star stands where keywords begin, and before `*rest`."""
    told = []
    for name, parameter in inspect.signature(function).parameters.items():
        if parameter.kind == parameter.KEYWORD_ONLY and "*" not in told:
            told.append("*")
        told.append("*" + name if parameter.kind == parameter.VAR_POSITIONAL else name)
    return function.__name__ + "(" + ",".join(told) + ")"


def module_of(name):
    return importlib.import_module("formroads." + name)


class InterfaceTest(unittest.TestCase):
    def test_functions(self):
        for name, functions in FUNCTIONS.items():
            for told in functions.split(" "):
                function = getattr(module_of(name), told.split("(")[0])
                self.assertEqual((described(function), function.__module__), (told, "formroads." + name))

    def test_classes(self):
        for (name, class_name), methods in CLASSES.items():
            own = getattr(module_of(name), class_name)
            self.assertEqual(own.__module__, "formroads." + name)
            for told in methods.split(" "):
                self.assertIn(told.split("(")[0], vars(own))
                self.assertEqual(described(getattr(own, told.split("(")[0])), told)

    def test_operators(self):
        for (name, class_name), operators in OPERATORS.items():
            for operator in operators.split(" "):
                self.assertIn(operator, vars(getattr(module_of(name), class_name)))

    def test_defaults(self):
        for (name, *path), defaults in DEFAULTS.items():
            function = module_of(name)
            for part in path:
                function = getattr(function, part)
            parameters = inspect.signature(function).parameters.values()
            found = {one.name: one.default for one in parameters if one.default is not one.empty}
            self.assertEqual(found, defaults)

    def test_methods_that_need_no_object(self):
        for name, class_name, method in (
            ("webs", "Web", "of"), ("houses", "House", "replayed"), ("regroupings", "Regrouping", "of"),
            ("regroupings", "Regrouping", "identity"), ("passages", "Passage", "of"),
        ):
            self.assertIsInstance(vars(getattr(module_of(name), class_name))[method], staticmethod)

    def test_class_values(self):
        for name, class_name, value, number in (
            ("kinds", "Kindbook", "MOST", 5), ("kinds", "Kindbook", "MOST_SIZE", 4), ("webs", "Web", "MOST_OFFICES", 6),
            ("webs", "Web", "MOST_WAYS", 9),
        ):
            self.assertEqual(vars(getattr(module_of(name), class_name))[value], number)
        self.assertEqual((module_of("shapes").MOST_COLUMNS, module_of("completing").MOST_UNKNOWN), (4, 4))
        self.assertEqual(module_of("kinds").UNKNOWN, "?")
