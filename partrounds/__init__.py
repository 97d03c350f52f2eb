"""Words parted by patterns: learned by rounds."""
