"""Guards: the points at which a program needs them, and why."""

from rightstate.errors import NoPlace
from rightstate.forms import is_row
from rightstate.search import Search, table_search
from rightstate.shortest import wrong_run
from rightstate.steps import Rules, point_of


class GuardingSearch(Search):
    """A search that puts a guard wherever a step would go wrong.

    A step that goes wrong leads to nothing, so that what was found ahead of a guard being put comes with it, too.
    And each set of guards that is enough has the guard: what was found up to there comes with that set, too.
    """

    def __init__(self, flow):
        guards = {}
        super().__init__(Rules(flow, guards))
        self.guards = guards

    def results_at(self, point, config, olds):
        """The results of the step of an activation that stands so, none of them wrong."""
        results = super().results_at(point, config, olds)
        if "wrong" not in [what for what, _, _, _, _, _ in results]:
            return results
        self.guards[point] = True
        return super().results_at(point, config, olds)


def least_guards(program):
    """The sorted list of the points at which guards are needed so that no step goes wrong."""
    flow = program.laid_out()
    search = GuardingSearch(flow)
    search.explore(flow.main, ((), ()))
    return sorted([point.place for point in search.guards])


def why_guarded(program):
    """The dict from each of the least guards to the choices of a run that goes wrong there if all others are guards."""
    places = least_guards(program)
    return {place: wrong_run(program, guards=[other for other in places if other != place]) for place in places}


def _fault_of_places(flow, places):
    """The index of the first of the places that is no point or stands ahead already, -1 for no row; None if all fit."""
    if not is_row(places):
        return -1
    ahead = {}
    for index, place in enumerate(places):
        try:
            point = point_of(flow, place)
        except NoPlace:
            return index
        if point in ahead:
            return index
        ahead[point] = True
    return None


def guards_fault(program, places):
    """None if these are just the least guards; otherwise the first thing that is wrong with them."""
    index = _fault_of_places(program.laid_out(), places)
    if index is not None:
        return ("place", index)
    search = table_search(program, places)
    wrong = sorted({search.place_of(row) for row, links in enumerate(search.links)
                    for _, what, _ in links if what == "wrong"})
    if wrong:
        return ("unsafe", wrong[0])
    least = least_guards(program)
    spare = sorted([tuple(place) for place in places if tuple(place) not in least])
    return ("spare", spare[0]) if spare else None
