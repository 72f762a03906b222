"""Which loaders need which, and which ones can be removed."""

from lateclasses.tables import require_loader


def add_need(found, loader, other):
    """Note that a loader needs another one, unless these are the same or the other one is that of top."""
    if other != loader and other != "":
        found[loader][other] = True


def needs_of_loaders(state):
    """Return a dict from the names of the loaders to dicts with the names of those that they need."""
    found = {name: {} for name in state.tables.names}
    for name in state.tables.names:
        shown = state.tables[name]
        for other in list(shown.asks.values()):
            add_need(found, name, other)
        if shown.rest is not None:
            add_need(found, name, shown.rest)
    for key in state.meanings:
        add_need(found, key[0], state.meanings[key][0])
    for loader, one, _ in state.open_assumptions():
        for member in state.group(one, loader):
            add_need(found, member, loader)
    return found


def is_free(state, names):
    """Tell whether no loader needs one of these, these themselves left out."""
    found = needs_of_loaders(state)
    for name in state.tables.names:
        if name not in names and any([other in found[name] for other in names]):
            return False
    return True


def removable_names(state):
    """Return the names of the loaders that unloading would remove, in the order in which they were added."""
    found = needs_of_loaders(state)
    kept = state.heap.needed()
    waiting = [name for name in state.tables.names if name not in state.given_up or name in kept]
    stays = {name: True for name in waiting}
    while len(waiting) > 0:
        at = waiting.pop()
        for other in found[at]:
            if other not in stays:
                stays[other] = True
                waiting.append(other)
    return [name for name in state.tables.names if name not in stays]


def groups_of(state, name, loaders):
    """Return the groups of these loaders that are joined for a name, as lists, each in the order of the loaders."""
    found = []
    seen = {}
    for loader in loaders:
        if loader not in seen:
            members = state.group(name, loader)
            joined = [other for other in loaders if other in members]
            found.append(joined)
            for other in joined:
                seen[other] = True
    return found


def reached(links, start):
    """Return the loaders to which links lead from a loader, as a dict."""
    found = {start: True}
    waiting = [start]
    while len(waiting) > 0:
        at = waiting.pop()
        for one, other in links:
            if at in (one, other):
                for loader in (one, other):
                    if loader not in found:
                        found[loader] = True
                        waiting.append(loader)
    return found


def missing_links(links, group):
    """Return the links from the first loader of a group that join with it what other links leave apart."""
    found = []
    for loader in group[1:]:
        if loader not in reached(links + found, group[0]):
            found.append((group[0], loader))
    return found


def gone_equations(state, names):
    """Return the equations that keep loaders joined when those of these names are removed."""
    stays = [name for name in state.tables.names if name not in names]
    staying = [equation for equation in state.equations if equation[1] in stays and equation[2] in stays]
    found = []
    for word in sorted(list({equation[0]: True for equation in state.equations})):
        links = [(equation[1], equation[2]) for equation in staying if equation[0] == word]
        for group in groups_of(state, word, stays):
            found.extend([(word, one, other, ("gone",)) for one, other in missing_links(links, group)])
    return found


def unload_from(state):
    """Remove what can be removed, and return the names of the removed loaders."""
    names = removable_names(state)
    if len(names) > 0:
        state.remove(names, gone_equations(state, names))
    return names


def needed_by(machine, loader):
    """Return the names of the other loaders that need a loader, in the order in which they were added."""
    state = machine.state_now()
    require_loader(state.tables, loader)
    found = needs_of_loaders(state)
    return [name for name in state.tables.names if loader in found[name]]


def removable(machine):
    """Return the names of the loaders that unload would remove, in the order in which they were added."""
    return removable_names(machine.state_now())
