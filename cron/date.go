package cron

import "foliot/api"

// MaxTime is the last minute with a date.
const MaxTime = 1 << 32

const (
	hourMinutes = 60
	dayMinutes  = 24 * hourMinutes
	weekDays    = 7
	firstYear   = 2000
	firstWeek   = 6 // the first day of all is a Saturday
	cycleYears  = 400
	cycleDays   = 146097 // of so many years, after which the years are as long again as they were
)

// monthLengths is how many days the months have in a year of 365.
var monthLengths = [12]int{31, 28, 31, 30, 31, 30, 31, 31, 30, 31, 30, 31}

// Date is a time of the calendar.
type Date struct{ Year, Month, Day, Hour, Minute, Week int }

// DateOf: the date of a minute from the beginning of the year 2000 on, a Saturday.
func DateOf(t int64) (Date, api.Errno) {
	if t < 0 || t > MaxTime {
		return Date{}, api.ErrRange
	}
	return dateOf(t), api.OK
}

func dateOf(t int64) Date {
	days, minutes := int(t/dayMinutes), int(t%dayMinutes)
	year, rest := yearOf(days)
	month, rest := monthOf(year, rest)
	return Date{
		Year:   year,
		Month:  month,
		Day:    rest + 1,
		Hour:   minutes / hourMinutes,
		Minute: minutes % hourMinutes,
		Week:   (firstWeek + days) % weekDays,
	}
}

// yearOf: the year of a day, counted from 0, and which of the year's days it is, from 0.
func yearOf(days int) (year, rest int) {
	year, rest = firstYear+days/cycleDays*cycleYears, days%cycleDays
	for rest >= yearLength(year) {
		rest -= yearLength(year)
		year++
	}
	return year, rest
}

// monthOf: the month of a year's day, counted from 0, and which of the month's days it is, from 0.
func monthOf(year, days int) (month, rest int) {
	month, rest = 1, days
	for rest >= monthLength(year, month) {
		rest -= monthLength(year, month)
		month++
	}
	return month, rest
}

func isLeap(year int) bool { return year%4 == 0 && year%100 != 0 || year%400 == 0 }

func yearLength(year int) int {
	if isLeap(year) {
		return 366
	}
	return 365
}

func monthLength(year, month int) int {
	if month == 2 && isLeap(year) {
		return 29
	}
	return monthLengths[month-1]
}
