"""The rows that each act of a plan leaves in each house, what is sent, and the plan's answer."""

from shardask.courses import Course


def worked_everywhere(course, number, ahead):
    # For each house, what it has for each house.
    inner = course.acts_ahead(number)
    return [course.worked(number, house, [ahead[act][house] for act in inner]) for house in course.house_numbers()]


def part_at(course, number, house, worked):
    rows = list(worked[house][house])
    for sender in course.senders(number, house):
        rows.extend(worked[sender][house])
    return sorted(rows)


def parts_of(course):
    made = []
    for number in range(len(course.acts)):
        worked = worked_everywhere(course, number, made)
        made.append([part_at(course, number, house, worked) for house in course.house_numbers()])
    return made


def sent_by(course, number, made):
    worked = worked_everywhere(course, number, made)
    bundles = []
    for house in course.house_numbers():
        for sender in course.senders(number, house):
            bundles.append((number, sender, house, len(worked[sender][house])))
    return [bundle for bundle in bundles if bundle[3] > 0]


def parts(town, plan):
    return parts_of(Course(town, plan))


def sent(town, plan):
    course = Course(town, plan)
    made = parts_of(course)
    bundles = []
    for number in range(len(course.acts)):
        bundles.extend(sent_by(course, number, made))
    return sorted(bundles)


def told(town, plan):
    course = Course(town, plan)
    course.need_answer()
    return course.answer_by(parts_of(course)[-1])
