"""Terms: variables, and tuples of a symbol and its arguments."""

from elenchus.errors import InvalidPosition

TRUE = ("true",)

# A term that is larger or deeper than this does not fit.
LARGEST_SIZE = 1000
DEEPEST_NESTING = 100


def is_variable(term):
    """Return True if the term is a variable."""
    return not isinstance(term, tuple)


def is_ground(term):
    """Return True if the term has no variables."""
    return variables(term) == []


def size(term):
    """Return the number of symbols and variables of the term."""
    count = 0
    waiting = [term]
    while waiting:
        part = waiting.pop()
        count += 1
        if not is_variable(part):
            waiting.extend(part[1:])
    return count


def nesting(term):
    """Return the number of levels of the term."""
    depth = 0
    level = [term]
    while level:
        depth += 1
        level = arguments_of(level)
    return depth


def fits(term):
    """Return True if neither the size nor the nesting is too great."""
    count = 0
    depth = 0
    level = [term]
    while level:
        count += len(level)
        depth += 1
        if count > LARGEST_SIZE or depth > DEEPEST_NESTING:
            return False
        level = arguments_of(level)
    return True


def arguments_of(terms):
    """Return the list of the arguments of all applications in a list."""
    return [argument for term in terms if not is_variable(term) for argument in term[1:]]


def variables(term):
    """Return the term's variables in the order of their first occurrence."""
    return variables_of([term])


def variables_of(terms):
    """Return the variables of a list of terms in the order of their first occurrence."""
    found = {}
    waiting = terms[::-1]
    while waiting:
        part = waiting.pop()
        if is_variable(part):
            found[part] = True
        else:
            waiting.extend(part[:0:-1])
    return list(found)


def occurs(variable, term):
    """Return True if the variable occurs in the term."""
    return variable in variables(term)


def positions(term, *, with_variables=True):
    """Return the list of the positions in preorder."""
    found = []
    waiting = [((), term)]
    while waiting:
        position, part = waiting.pop()
        if not is_variable(part):
            found.append(position)
            for index in range(len(part) - 1, 0, -1):
                waiting.append((position + (index,), part[index]))
        elif with_variables:
            found.append(position)
    return found


def subterm_at(term, position):
    """Return the subterm at the position."""
    return path_to(term, position)[-1]


def replace_at(term, position, new):
    """Return the term with `new` in place of the subterm at the position."""
    path = path_to(term, position)
    result = new
    for depth in range(len(position) - 1, -1, -1):
        outer = path[depth]
        index = position[depth]
        result = outer[:index] + (result,) + outer[index + 1:]
    return result


def path_to(term, position):
    """Return the list of the subterms from the term itself down to the position."""
    path = [term]
    for index in position:
        part = path[-1]
        if is_variable(part) or not 1 <= index < len(part):
            raise InvalidPosition(position)
        path.append(part[index])
    return path


def shift(term, by):
    """Return the term with `i + by` in place of each variable `i`."""
    if is_variable(term):
        return term + by
    return (term[0],) + tuple([shift(argument, by) for argument in term[1:]])


def replace_variables(term, new):
    """Return the term with `new[v]` in place of each variable v that is a key of `new`."""
    if is_variable(term):
        return new.get(term, term)
    return (term[0],) + tuple([replace_variables(argument, new) for argument in term[1:]])


def symbols(term):
    """Return the pairs (symbol, number of arguments) of the term in ascending order."""
    found = {}
    waiting = [term]
    while waiting:
        part = waiting.pop()
        if not is_variable(part):
            found[(part[0], len(part) - 1)] = True
            waiting.extend(part[1:])
    return sorted(found)
