"""Reading a list of numbers in each of the seven codes, just as they are written."""

from sevencodes.faults import CountFault, EntryFault, RangeFault, StretchFault
from sevencodes.measures import PART_LENGTH, RUN_LENGTH, all_in_range, in_range, stretches_of, width_of


def number_above(number, step, place):
    """Give the number and the step together; out of range is a fault at the place."""
    above = number + step
    if not in_range(above):
        raise RangeFault(place)
    return above


def read_count(reader, most):
    """Read a short number that must be from 1 to the most."""
    place = reader.place
    count = reader.read_short()
    if count == 0 or count > most:
        raise CountFault(place)
    return count


def read_plain(reader, n):
    """Code 0."""
    numbers = []
    while len(numbers) < n:
        numbers.append(reader.read_number())
    return numbers


def read_runs(reader, n):
    """Code 1."""
    numbers = []
    while len(numbers) < n:
        count = read_count(reader, n - len(numbers))
        place = reader.place
        number = reader.read_number()
        if len(numbers) > 0 and numbers[-1] == number:
            raise StretchFault(place)
        numbers.extend([number] * count)
    return numbers


def read_whole_pack(reader, n):
    """Code 2."""
    place = reader.place
    numbers = reader.read_pack(n)
    if not all_in_range(numbers):
        raise RangeFault(place)
    return numbers


def is_bunch(mark):
    """Tell whether the short number before a group of code 3 is that of a bunch."""
    return mark % 2 == 1


def read_mark(reader, wanted, after_bunch):
    """Read the short number before a group of code 3, and look at what it says."""
    place = reader.place
    mark = reader.read_short()
    count = mark // 2
    if count == 0 or count > wanted:
        raise CountFault(place)
    if not is_bunch(mark) and count < RUN_LENGTH:
        raise StretchFault(place)
    if is_bunch(mark) and after_bunch:
        raise StretchFault(place)
    return mark


def read_group(reader, mark, width):
    """Read the block of a group of code 3, and give the group's offsets."""
    count = mark // 2
    if is_bunch(mark):
        return reader.read_block(count, width)
    return reader.read_block(1, width) * count


def holds_run(offsets):
    """Tell whether some of the offsets should have been a run of code 3."""
    for offset, count in stretches_of(offsets):
        if count >= RUN_LENGTH:
            return True
    return False


def read_groups(reader, n, width):
    """Read the groups of code 3, up to n offsets."""
    offsets = []
    after_bunch = False
    while len(offsets) < n:
        place = reader.place
        mark = read_mark(reader, n - len(offsets), after_bunch)
        group = read_group(reader, mark, width)
        if len(offsets) > 0 and offsets[-1] == group[0]:
            raise StretchFault(place)
        if is_bunch(mark) and holds_run(group):
            raise StretchFault(place)
        offsets.extend(group)
        after_bunch = is_bunch(mark)
    return offsets


def read_mixed(reader, n):
    """Code 3."""
    head = reader.read_head()
    numbers = head.numbers_of(read_groups(reader, n, head.width))
    if not all_in_range(numbers):
        raise RangeFault(head.place)
    return numbers


def read_steps(reader, n):
    """Code 4."""
    numbers = [reader.read_number()]
    while len(numbers) < n:
        place = reader.place
        step = reader.read_signed()
        numbers.append(number_above(numbers[-1], step, place))
    return numbers


def read_step_blocks(reader, n):
    """Code 5."""
    numbers = [reader.read_number()]
    while len(numbers) < n:
        place = reader.place
        steps = reader.read_pack(min(PART_LENGTH, n - len(numbers)))
        for step in steps:
            numbers.append(number_above(numbers[-1], step, place))
    return numbers


def read_entries(reader, n):
    """Code 6."""
    count = read_count(reader, n)
    entries = [reader.read_number()]
    while len(entries) < count:
        place = reader.place
        gap = reader.read_short()
        entries.append(number_above(entries[-1], gap + 1, place))
    block_place = reader.place
    places = reader.read_block(n, width_of([count - 1]))
    if max(places) >= count or len(set(places)) < count:
        raise EntryFault(block_place)
    return [entries[place] for place in places]


def read_list(reader, code, n):
    """Read n numbers in the code, which is from 0 to 6."""
    if n == 0:
        return []
    if code == 0:
        return read_plain(reader, n)
    if code == 1:
        return read_runs(reader, n)
    if code == 2:
        return read_whole_pack(reader, n)
    if code == 3:
        return read_mixed(reader, n)
    if code == 4:
        return read_steps(reader, n)
    if code == 5:
        return read_step_blocks(reader, n)
    return read_entries(reader, n)
