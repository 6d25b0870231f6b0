"""The names and arguments of the document's interface, and where they are defined."""

import importlib
import inspect
import unittest

INTERFACE = {
    "numbers": """is_number(told) number(top,bottom) plus(a,b) minus(a,b) times(a,b) by(a,b) power(a,n) below(a,b)
        least(numbers) greatest(numbers) total(numbers)""",
    "ladders": """ladder(n,ratio) chance(n,ratio,i,r) unladder(n,ratio) wide(n,ratio,far) ratio_for(factor)""",
    "chances": """is_draw(told) draw(rows) mixed(draws) mapped(draw,table) both(one,other) chance_of(draw,thing)
        mean(draw) ratio_of(one,other)""",
    "schemes": """is_scheme(told) size(scheme) factor(scheme) has_factor(scheme,number) read_by(scheme,mixed)
        asked_both(one,other) blended(one,other,chance) turned(scheme)""",
    "readings": """read_ladder(n,ratio,reading) cost(scheme,asker) best_reading(n,ratio,asker) mixed_of(scheme,ratio)
        bend(scheme,ratio)""",
    "sums": """least_sum(many,musts,aim) shows(many,musts,aim,told)""",
    "best": """best(n,ratio,asker) least_cost(n,ratio,asker) is_shown(n,ratio,asker,paper) shown(paper)
        fault(n,ratio,asker,paper) musts_of(n,ratio) aim_of(asker)""",
    "steady": """worst(scheme,loss) steady(n,ratio,loss) is_steady(n,ratio,loss,told)""",
    "odds": """behind(belief,scheme,answer) odds(belief,i,j) moved(scheme,i,j) far(scheme) gain(belief,scheme)
        told_apart(one,other)""",
    "makes": """made_of(one,other) is_made(one,other,told) as_good(one,other)""",
    "samplers": """sampler(draw) drawn(sampler,bits) mean_bits(sampler) chances_within(sampler,rounds)""",
    "tables": """is_schema(told) is_person(schema,told) is_table(schema,told) persons(schema) tables_of(schema,n)
        neighbours(schema,table) are_neighbours(schema,one,other) put(schema,table,index,person)""",
    "questions": """is_term(schema,told) is_test(schema,told) is_question(schema,told) worth(schema,term,person)
        passes(schema,test,person) answer(schema,question,table) range_of(schema,question,n)""",
    "folds": """begun(schema,question) stepped(schema,question,standing,person) standing(schema,question,table)
        told_by(schema,question,standing) standings(schema,question,n) alike(schema,question)""",
    "stretches": """stretch(schema,question,n) pairs(schema,question,n) row_stretch(schema,questions,n)
        is_stretch(schema,question,n,told)""",
    "releases": """is_release(schema,told) outputs(schema,release,table) chance(schema,release,table,output)
        release_factor(schema,release,n) read_release(schema,release,mixed) ladder_release(schema,question,n,ratio)""",
    "trees": """is_tree(schema,told) row(releases) ways(tree) tree_chances(schema,tree,table)
        tree_factor(schema,tree,n) way_bound(schema,tree,n)""",
    "ledgers": """moved_by(schema,one,other,history)""",
    "texts": """show_number(a) show_part(told) show_schema(schema) show_table(table) show_scheme(scheme)
        show_release(release) show_tree(tree) show_asker(asker)""",
    "readers": """read_number(text) read_question(schema,text) read_schema(text) read_table(schema,text) read_scheme(text)
        read_release(schema,text) read_tree(schema,text) read_asker(text)""",
}
CLASSES = {
    ("ledgers", "Ledger"): ("__init__(self,schema,table,limit) ask(self,release,lot) history(self) twin(self)",
                            "schema paid left"),
    ("consoles", "Console"): ("""__init__(self) keep_schema(self,name,schema)
        keep_ledger(self,name,schema_name,table,limit) drop(self,name) names(self) ledger(self,name) undo(self)
        order(self,text)""", ""),
}


class InterfaceTest(unittest.TestCase):
    def has_each(self, names, text, module):
        """Each function of a text is among the names, is defined in the module, and has these arguments."""
        for told in text.split():
            name, arguments = told[:-1].split("(")
            function = names[name]
            self.assertTrue(inspect.isfunction(function), told)
            self.assertEqual(function.__module__, module.__name__, told)
            parameters = inspect.signature(function).parameters.values()
            self.assertEqual(",".join(parameter.name for parameter in parameters), arguments, told)
            for parameter in parameters:
                self.assertIs(parameter.kind, inspect.Parameter.POSITIONAL_OR_KEYWORD, told)
                self.assertIs(parameter.default, inspect.Parameter.empty, told)

    def test_each_function(self):
        for file, text in INTERFACE.items():
            module = importlib.import_module(f"oneservesall.{file}")
            self.has_each(vars(module), text, module)

    def test_each_class(self):
        for (file, name), (methods, properties) in CLASSES.items():
            module = importlib.import_module(f"oneservesall.{file}")
            made = getattr(module, name)
            self.assertTrue(inspect.isclass(made))
            self.assertEqual(made.__module__, module.__name__)
            self.has_each(vars(made), methods, module)
            for told in properties.split():
                self.assertIsInstance(vars(made)[told], property)


if __name__ == "__main__":
    unittest.main()
