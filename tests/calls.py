"""Calls by position and by names, with sets in any form. Nothing here uses the package."""

import copy


def check_calls(test, calls):
    """Each call is a function, its values by their names, and the answer."""
    for function, values, answer in calls:
        for _ in range(2):
            test.assertEqual(function(**values), answer, function.__name__)
            test.assertEqual(function(*values.values()), answer, function.__name__)
        turned_round = dict(reversed(values.items()))
        test.assertEqual(function(**turned_round), answer, function.__name__)


def check_form(test, call, form):
    """That the same comes of these values, which stay as they were."""
    function, _, answer = call
    kept = copy.deepcopy(form)
    told = function(**form)
    test.assertEqual(told, answer, function.__name__)
    test.assertIs(type(told), type(answer), function.__name__)
    test.assertEqual(form, kept, function.__name__)


def check_sets(test, calls, names):
    """That the values with these names can be lists, in any order, with doubles."""
    for call in calls:
        sets = {name: value for name, value in call[1].items() if name in names}
        for form in (list, lambda ways: ways[::-1], lambda ways: ways * 3,
                     lambda ways: list(ways[::-1] + ways)):
            check_form(test, call, {**call[1], **{name: form(value) for name, value in sets.items()}})


def listed(thing):
    """The same with a list for each tuple."""
    return [listed(part) for part in thing] if isinstance(thing, tuple) else thing


def each_part_listed(thing):
    """The same with a list for one tuple in it, each in turn."""
    if isinstance(thing, tuple):
        yield list(thing)
        for k, part in enumerate(thing):
            for other in each_part_listed(part):
                yield thing[:k] + (other,) + thing[k + 1:]


def check_lists(test, calls):
    """That lists can stand in the place of tuples, all of them and each by itself."""
    for call in calls:
        values = {name: value for name, value in call[1].items() if name != "thing"}
        forms = [{name: listed(value) for name, value in values.items()}]
        for name, value in values.items():
            forms += [{name: form} for form in each_part_listed(value)]
        for form in forms:
            check_form(test, call, {**call[1], **form})
