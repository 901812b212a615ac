"""Entries, configs and exits: what an activation is handed and holds, its objects numbered from 1 on.

Where an activation is looked at by itself, its entry's objects have the first numbers, as in its entry.
"""

from rightstate.steps import landing, value_of


def numbered(refs, pending, olds, objects):
    """The config of an activation that was handed the objects olds, in this order."""
    numbers = {0: 0}
    for one in olds + refs + (value_of(pending),):
        if one not in numbers:
            numbers[one] = len(numbers)
    told = tuple([objects[one - 1] for one in list(numbers)[1:]])
    if pending and pending[0] in ("return", "take"):
        pending = (pending[0], numbers[pending[1]])
    return (tuple([numbers[one] for one in refs]), told, pending)


def handed(values, objects):
    """A pair: the entry of an activation that is handed these values, and the objects in it, as numbered ahead."""
    refs, told, _ = numbered(values, (), (), objects)
    olds = []
    for one in values:
        if one != 0 and one not in olds:
            olds.append(one)
    return (refs, told), tuple(olds)


def begin_config(flow, number, entry):
    """The config with which an activation of a function begins."""
    refs, objects = entry
    return (refs + (0,) * (flow.size_of(number) - len(refs)), objects, ())


def exit_of(how, value, olds, objects):
    """The exit of an activation that was handed olds and returns a value."""
    states = tuple([objects[one - 1][1] for one in olds])
    if value == 0:
        return (how, states, ("none",))
    if value in olds:
        return (how, states, ("old", olds.index(value) + 1))
    return (how, states, ("new",) + objects[value - 1])


def changed(objects, change):
    """The tuple of the objects behind the change of a step."""
    if change is None:
        return objects
    number, thing = change
    return objects[:number - 1] + (thing,) + objects[number:]


def config_behind(config, olds, result):
    """The config behind a step that goes on; olds are the numbers of the entry's objects."""
    _, _, refs, pending, change, _ = result
    return numbered(refs, pending, olds, changed(config[1], change))


def behind_run(point, config, olds, told):
    """A pair (point, config): where the activation stands behind the run that was handed olds and had this exit."""
    refs, objects, _ = config
    how, states, value = told
    found = list(objects)
    for one, state in zip(olds, states):
        found[one - 1] = (objects[one - 1][0], state)
    if how != "return":
        where, pending = landing(point.around, how)
        return where, (refs, tuple(found), pending)
    taken = 0
    if value[0] == "old":
        taken = olds[value[1] - 1]
    elif value[0] == "new":
        found.append(value[1:])
        taken = len(found)
    return point, (refs, tuple(found), ("take", taken))
