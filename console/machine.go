package console

import (
	"strconv"

	"annals/disk"
)

// machine is the command of that name that the disk itself plays; nil: there is none.
func (c *Console) machine(name string) command {
	switch name {
	case "files":
		return &filesCommand{disk: c.drive()}
	case "free":
		return &freeCommand{disk: c.drive()}
	case "arm":
		return &armCommand{disk: c.drive()}
	}
	return nil
}

type filesCommand struct {
	anytime
	bare
	disk *disk.Disk
}

func (f *filesCommand) play() ([]string, error) {
	var parts []string
	for _, file := range f.disk.Files() {
		parts = append(parts, file.Name+":"+strconv.Itoa(len(file.Data)))
	}
	return parts, nil
}

type freeCommand struct {
	anytime
	bare
	disk *disk.Disk
}

func (f *freeCommand) play() ([]string, error) { return numbers(f.disk.Free()), nil }

type armCommand struct {
	anytime
	oneNumber
	disk *disk.Disk
}

func (a *armCommand) play() ([]string, error) {
	a.disk.Arm(a.number)
	return nil, nil
}
