"""What [45] and [46] say of supports and counts, with all orders of steps tried."""

from slow_settling import slow_next


def slow_fed(program, numbers, support):
    """The set of the counters fed by a support."""
    fed = {i for i in range(program.counters) if numbers[i] >= 1}
    for _ in range(program.counters + 1):
        for k in support:
            _, takes, gives, _ = program.steps[k]
            if sum(takes) == 0 or takes.index(1) in fed:
                fed |= {i for i in range(program.counters) if gives[i] > 0}
    return fed


def slow_is_fed(program, numbers, support):
    fed = slow_fed(program, numbers, support)
    return all(take == 0 or i in fed for k in support
               for i, take in enumerate(program.steps[k][1]))


def some_run(program, start, counts, tried=None):
    """A run that does each step so often, None if there is none: by trying all orders."""
    tried = set() if tried is None else tried
    if counts in tried:
        return None
    tried.add(counts)
    if sum(counts) == 0:
        return ()
    for k, often in enumerate(counts):
        there = slow_next(program, start, k) if often else None
        if there is not None:
            rest = some_run(program, there, counts[:k] + (often - 1,) + counts[k + 1:], tried)
            if rest is not None:
                return (k, *rest)
    return None


def search(program, start, top):
    """All configurations to which runs lead that never hold more than top in a counter."""
    seen, todo = {start}, [start]
    while todo:
        here = todo.pop()
        for k in range(len(program.steps)):
            there = slow_next(program, here, k)
            if there is not None and there not in seen and max(there[1], default=0) <= top:
                seen.add(there)
                todo.append(there)
    return seen
