"""Names that use one another, as dicts from names to lists of the names that they use."""


def inner_first(uses):
    """The names, each behind all that it uses; those that lead into rings are left out."""
    users = users_in(uses)
    missing = {name: len(used) for name, used in uses.items()}
    order = [name for name in uses if missing[name] == 0]
    at = 0
    while at < len(order):
        name = order[at]
        for user in users[name]:
            missing[user] = missing[user] - 1
            if missing[user] == 0:
                order.append(user)
        at += 1
    return order


def users_in(uses):
    """A dict from the names to lists of the names that use them."""
    users = {name: [] for name in uses}
    for name, used in uses.items():
        for other in used:
            users[other].append(name)
    return users


def least_ring_in(uses):
    """The least ring, () without one."""
    ordered = {name: True for name in inner_first(uses)}
    if len(ordered) == len(uses):
        return ()
    users = users_in(uses)
    # A ring through a name that has none of the names ahead of it in a ring begins with this name.
    for name in sorted(uses):
        if name not in ordered:
            ring = _ring_from(name, uses, users)
            if ring != ():
                return ring
    return ()


def _ring_from(first, uses, users):
    """The least row of names that begins with this name and leads back to it, () without one."""
    ring = [first]
    while first not in uses[ring[-1]]:
        leading = _leading_to(first, users, ring)
        following = [name for name in uses[ring[-1]] if name in leading]
        if not following:
            return ()
        ring.append(min(following))
    return tuple(ring)


def _leading_to(first, users, ring):
    """The names from which uses lead to a name, beside the beginning of a ring, as a dict."""
    barred = {name: True for name in ring}
    leading = {}
    waiting = [first]
    while waiting:
        name = waiting.pop()
        for user in users[name]:
            if user not in barred and user not in leading:
                leading[user] = True
                waiting.append(user)
    return leading
